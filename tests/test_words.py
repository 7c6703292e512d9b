"""[20] to [22]: words of threes and firm fours."""

import unittest
from collections import Counter
from itertools import combinations
from random import Random

from tests import helper
from tests.test_houses import some_companies
from tests.test_letdown import classes
from twinties.companies import alike_couples, among, deeds, done
from twinties.errors import InvalidLot
from twinties.letdown import base_of
from twinties.words import firm_fours, same_words, word_of, word_tally, words_of

ROW, OTHER = [[], [1], [0, 1], [0, 0, 1]], [[], [0], [1, 1], [0, 1, 0]]


def word_by_definition(company, lot):
    ties = [helper.tie_in(company, one, other) for one, other in combinations(lot, 2)]
    often = [kind for kind, many in Counter(ties).items() if many > 1]
    return (often[0],) if often else tuple(ties)


def firm_by_definition(kinds, company):
    return [
        (lot, [helper.tie_in(company, one, other) for one, other in combinations(lot, 2)])
        for lot in helper.lots_of(len(company), 4) if alike_couples(kinds, among(kinds, company, lot)) == []
    ]


class ExamplesTest(unittest.TestCase):
    def test_words_and_firm_fours(self):
        self.assertEqual(
            [words_of(2, ROW), words_of(2, OTHER), firm_fours(2, ROW), firm_fours(2, [[], [1], [1, 1], [0, 0, 1]])],
            [[(1,), (0,), (0,), (1,)], [(1,), (0,), (0,), (1,)], [([0, 1, 2, 3], [1, 0, 0, 1, 0, 1])], []],
        )
        self.assertEqual(
            [word_of(3, [[], [2], [0, 1]], [0, 1, 2]), word_of(3, [[], [2], [0, 2]], [0, 1, 2]), word_tally(2, ROW),
             word_tally(2, [[], [1]])],
            [(2, 0, 1), (2,), [((0,), 2), ((1,), 2)], []],
        )
        self.assertEqual(same_words(2, ROW, OTHER), False)
        self.assertEqual(same_words(2, [[], [1], [1, 1]], [[], [0], [1, 1]]), True)


class WordsTest(unittest.TestCase):
    def test_words_by_definition(self):
        for kinds, company in some_companies():
            lots = helper.lots_of(len(company), 3)
            words = [word_by_definition(company, lot) for lot in lots]
            self.assertEqual([word_of(kinds, company, lot) for lot in lots], words)
            self.assertEqual(words_of(kinds, company), words)
            self.assertEqual(word_tally(kinds, company), sorted(Counter(words).items()))

    def test_three_unlike_ties_are_told_in_order(self):
        self.assertEqual(word_of(9, [[], [8], [5, 3]], [0, 1, 2]), (8, 5, 3))
        self.assertEqual(word_of(9, [[], [3], [3, 8]], [0, 1, 2]), (3,))
        self.assertEqual(word_of(9, [[], [3], [8, 3]], [0, 1, 2]), (3,))
        self.assertEqual(word_of(9, [[], [8], [3, 3]], [0, 1, 2]), (3,))
        self.assertEqual(word_of(9, [[], [4], [4, 4]], [0, 1, 2]), (4,))
        self.assertEqual(word_tally(4, [[], [0], [0, 0], [1, 2, 3]]), [((0,), 1), ((0, 1, 2), 1), ((0, 1, 3), 1), ((0, 2, 3), 1)])

    def test_a_lot_of_more_or_fewer_has_no_word(self):
        for wrong in ([0], [0, 1], [0, 1, 2, 3], [2, 1, 0], [0, 1, 4], (0, 1, 2), [0, 0, 1], [0, True, 2], None):
            helper.refusal(self, InvalidLot, wrong, word_of, 2, ROW, wrong)
        wrong = [0, 1]
        helper.refusal(self, InvalidLot, wrong, word_of, 2, [[], [1]], wrong)

    def test_fewer_than_three_or_four_people(self):
        for company in ([[]], [[], [8]]):
            self.assertEqual([words_of(9, company), word_tally(9, company), firm_fours(9, company)], [[], [], []])
        three = [[], [8], [7, 6]]
        self.assertEqual([words_of(9, three), word_tally(9, three)], [[(8, 7, 6)], [((8, 7, 6), 1)]])
        self.assertEqual(firm_fours(9, three), [])

    def test_firm_fours_by_definition(self):
        for kinds, company in some_companies():
            self.assertEqual(firm_fours(kinds, company), firm_by_definition(kinds, company))

    def test_deeds_change_neither_words_nor_firm_fours(self):
        for kinds, company in some_companies():
            words, fours = words_of(kinds, company), firm_fours(kinds, company)
            for deed in deeds(kinds, company)[:6]:
                behind = done(kinds, company, deed)
                self.assertEqual(words_of(kinds, behind), words)
                self.assertEqual(firm_fours(kinds, behind), fours)
                self.assertIs(same_words(kinds, company, behind), True)

    def test_the_same_words_and_firm_fours_have_just_those_that_deeds_lead_to(self):
        for kinds, people in [(2, 1), (2, 2), (2, 3), (2, 4), (3, 3), (9, 2)]:
            number = {repr(company): at for at, row in enumerate(classes(kinds, people)) for company in row}
            for one in helper.companies_of(kinds, people):
                for other in helper.companies_of(kinds, people):
                    self.assertIs(same_words(kinds, one, other), number[repr(one)] == number[repr(other)])

    def test_words_alone_are_not_enough(self):
        self.assertEqual(words_of(2, ROW), words_of(2, OTHER))
        self.assertIs(same_words(2, ROW, OTHER), False)

    def test_firm_fours_alone_are_not_enough(self):
        one, other = [[], [0], [0, 0], [0, 0, 0]], [[], [1], [1, 1], [1, 1, 1]]
        self.assertEqual(firm_fours(2, one), firm_fours(2, other))
        self.assertIs(same_words(2, one, other), False)


class LimitsTest(unittest.TestCase):
    def test_forty_people(self):
        rng = Random(22)
        grower = helper.Grower(9, rng)
        told, _ = grower.shuffled(*grower.grown(grower.tree(40)))
        rows = [
            told, helper.row_of_friends(40), [[8] * person for person in range(40)],
            [[rng.randrange(9) for _ in range(person)] for person in range(40)],
        ]
        for company in rows:
            words = words_of(9, company)
            self.assertEqual(len(words), 9880)
            self.assertEqual(sum(many for _, many in word_tally(9, company)), 9880)
            fours = dict((tuple(lot), ties) for lot, ties in firm_fours(9, company))
            for lot in rng.sample(helper.lots_of(40, 4), 200):
                firm = alike_couples(9, among(9, company, lot)) == []
                self.assertIs(tuple(lot) in fours, firm)
                if firm:
                    self.assertEqual(
                        fours[tuple(lot)], [helper.tie_in(company, one, other) for one, other in combinations(lot, 2)]
                    )
            self.assertIs(same_words(9, company, base_of(9, company)), True)
        self.assertIs(same_words(9, rows[0], rows[1]), False)


if __name__ == "__main__":
    unittest.main()
