"""[70]: lines of text that tell kinds and a company."""

import unittest
from itertools import product
from random import Random

from tests import helper
from twinties.errors import InvalidCompany, InvalidLine, InvalidNumber
from twinties.lines import line_of, of_line

WRONG_LINES = [
    None, True, False, 0, 2, helper.THIRTY_FIGURES, (), ("2:",), [], ["2:"], ["2", ":"], {}, "", ":", "2", "2 :", " 2:",
    "2: ", "2:,", "2:1,", "2:,01", "2:1,,01", "2:1,0", "2:1,010", "2:11", "2:1,01,", "2:2", "3:3", "1:", "0:", "10:",
    "02:", "-2:", "+2:", "2:-", "2:1;01", "2;1", "2:1,01\n", "\n2:", "2:a", "a:", "2::", "2:1:01", "2:1, 01", "2:1.01",
    "9:9", "2:1,1", "[[]]", "2:" + ",".join("0" * person for person in range(1, 41)), "2:" + "0" * 898,
    "2:" + "," * 898, "2" * 900, ":" * 900,
]


class ExamplesTest(unittest.TestCase):
    def test_lines(self):
        self.assertEqual(
            [line_of(2, [[], [1], [0, 1]]), line_of(9, [[], [8]]), of_line("3:2,00,121"), of_line("2:"),
             line_of(4, [[]])],
            ["2:1,01", "9:8", (3, [[], [2], [0, 0], [1, 2, 1]]), (2, [[]]), "4:"],
        )


class LinesTest(unittest.TestCase):
    def test_a_line_leads_to_its_company_and_back(self):
        lines = set()
        companies = 0
        for kinds, most in ((2, 4), (3, 3), (4, 3), (9, 2)):
            for people in range(1, most + 1):
                for company in helper.companies_of(kinds, people):
                    line = line_of(kinds, company)
                    self.assertEqual(of_line(line), (kinds, company))
                    lines.add(line)
                    companies += 1
        self.assertEqual(len(lines), companies)

    def test_no_other_text_leads_to_one(self):
        for length in range(7):
            for signs in product("0123:,", repeat=length):
                text = "".join(signs)
                try:
                    kinds, company = of_line(text)
                except InvalidLine as error:
                    self.assertIs(error.value, text)
                else:
                    self.assertEqual(line_of(kinds, company), text)

    def test_one_sign_more_less_or_other(self):
        line = line_of(3, [[], [2], [0, 1], [1, 1, 2]])
        for place in range(len(line) + 1):
            for sign in "0123456789:, \nax-":
                for text in (line[:place] + sign + line[place:], line[:place] + sign + line[place + 1:]):
                    try:
                        told = of_line(text)
                    except InvalidLine:
                        continue
                    self.assertEqual(line_of(*told), text)
            if place < len(line):
                less = line[:place] + line[place + 1:]
                helper.refusal(self, InvalidLine, less, of_line, less)

    def test_what_is_no_line(self):
        for wrong in WRONG_LINES + helper.ANYTHING:
            helper.refusal(self, InvalidLine, wrong, of_line, wrong)

    def test_a_line_of_all_kinds(self):
        for kinds in range(2, 10):
            company = [[], [kinds - 1], [0, kinds - 1]]
            self.assertEqual(of_line(line_of(kinds, company)), (kinds, company))
            self.assertEqual(of_line(f"{kinds}:"), (kinds, [[]]))
            wrong = f"{kinds}:{kinds}"
            helper.refusal(self, InvalidLine, wrong, of_line, wrong)

    def test_forty_people(self):
        rng = Random(70)
        for kinds in (2, 9):
            company = [[rng.randrange(kinds) for _ in range(person)] for person in range(40)]
            line = line_of(kinds, company)
            self.assertEqual([len(line), of_line(line)], [820, (kinds, company)])
            more = line + "," + "0" * 40
            helper.refusal(self, InvalidLine, more, of_line, more)

    def test_errors(self):
        for wrong in helper.WRONG_COMPANIES:
            helper.refusal(self, InvalidCompany, wrong, line_of, 2, wrong)
            helper.refusal(self, InvalidNumber, 10, line_of, 10, wrong)


if __name__ == "__main__":
    unittest.main()
