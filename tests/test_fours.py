"""[23] to [25]: four people tell whether companies are joined."""

import unittest
from random import Random

from tests import helper
from tests.test_houses import some_companies
from tests.test_letdown import classes, small_classes
from twinties.companies import among, deeds, differing, done, renamed
from twinties.errors import InvalidLot, Unlike
from twinties.fours import is_parting_lot, joined_among, lone_couple, parting_lot
from twinties.letdown import are_joined, base_of
from twinties.words import firm_fours, word_of

ROW, OTHER = [[], [1], [0, 1], [0, 0, 1]], [[], [0], [1, 1], [0, 1, 0]]
FIVE = [[], [1], [1, 1], [0, 0, 0], [0, 0, 0, 1]]
PAIRS = [(2, 1), (2, 2), (2, 3), (2, 4), (3, 3), (9, 2)]


def pairs():
    """Each two small companies of as many people."""
    for kinds, people in PAIRS:
        for one in helper.companies_of(kinds, people):
            for other in helper.companies_of(kinds, people):
                yield kinds, one, other


def some_pairs():
    """Some two companies of five people and of six, joined ones and others that are nearly so."""
    rng = Random(24)
    for kinds, company in some_companies():
        if len(company) > 4:
            other = company
            for _ in range(5):
                ready = deeds(kinds, other)
                other = done(kinds, other, rng.choice(ready)) if ready else other
            yield kinds, company, other
            unlike = [list(row) for row in other]
            person = rng.randrange(1, len(company))
            unlike[person][rng.randrange(person)] = rng.randrange(kinds)
            yield kinds, company, unlike


class ExamplesTest(unittest.TestCase):
    def test_fours(self):
        self.assertEqual(
            [parting_lot(2, ROW, OTHER), is_parting_lot(2, ROW, OTHER, [0, 1, 2]), lone_couple(2, ROW, OTHER)],
            [[0, 1, 2, 3], False, (0, 1)],
        )
        three, four = [[], [1], [1, 1]], [[], [0], [0, 1]]
        self.assertEqual(
            [parting_lot(2, three, four), lone_couple(2, three, four), joined_among(2, ROW, OTHER, [0, 2, 3])],
            [[0, 1, 2], None, True],
        )


class JoinedAmongTest(unittest.TestCase):
    def test_joined_among_a_lot(self):
        for kinds, one, other in some_pairs():
            for lot in helper.lots_of(len(one)):
                told = are_joined(kinds, among(kinds, one, lot), among(kinds, other, lot))
                self.assertIs(joined_among(kinds, one, other, lot), told)

    def test_joined_are_joined_among_any_lot(self):
        for kinds, members in small_classes():
            for other in members[:6]:
                for lot in helper.lots_of(len(other)):
                    self.assertIs(joined_among(kinds, members[0], other, lot), True)

    def test_four_people_tell_who_is_joined_by_deeds(self):
        for kinds, people in PAIRS:
            number = {repr(company): at for at, row in enumerate(classes(kinds, people)) for company in row}
            for one in helper.companies_of(kinds, people):
                for other in helper.companies_of(kinds, people):
                    joined = number[repr(one)] == number[repr(other)]
                    fours = helper.lots_of(people, min(4, people))
                    self.assertIs(all(joined_among(kinds, one, other, lot) for lot in fours), joined)

    def test_four_people_tell_of_five_and_six(self):
        for kinds, one, other in some_pairs():
            fours = helper.lots_of(len(one), 4)
            told = all(joined_among(kinds, one, other, lot) for lot in fours)
            self.assertIs(told, are_joined(kinds, one, other))

    def test_three_people_are_not_enough(self):
        self.assertTrue(all(joined_among(2, ROW, OTHER, lot) for lot in helper.lots_of(4, 3)))
        self.assertFalse(joined_among(2, ROW, OTHER, [0, 1, 2, 3]))

    def test_wrong_lots_are_told_behind_unlike(self):
        for wrong in ([], [1, 0], [4], [0, 4], (0, 1), [True], None, [0, 0]):
            helper.refusal(self, InvalidLot, wrong, joined_among, 2, ROW, OTHER, wrong)
            helper.refusal(self, Unlike, FIVE, joined_among, 2, ROW, FIVE, wrong)
            helper.refusal(self, Unlike, ROW, joined_among, 2, FIVE, ROW, wrong)


class PartingLotTest(unittest.TestCase):
    def expected(self, kinds, one, other):
        """The paper as [24] says it, from words and firm fours alone."""
        for lot in helper.lots_of(len(one), 3):
            if word_of(kinds, one, lot) != word_of(kinds, other, lot):
                return lot
        firsts, seconds = firm_fours(kinds, one), firm_fours(kinds, other)
        for lot in helper.lots_of(len(one), 4):
            six = [[helper.tie_in(company, a, b) for a in lot for b in lot if a < b] for company in (one, other)]
            if six[0] != six[1] and ((lot, six[0]) in firsts or (lot, six[1]) in seconds):
                return lot
        return None

    def test_the_paper_against_two_companies(self):
        for kinds, one, other in list(pairs()) + list(some_pairs()):
            lot = parting_lot(kinds, one, other)
            self.assertEqual(lot, self.expected(kinds, one, other))
            self.assertIs(lot is None, are_joined(kinds, one, other))
            if lot is not None:
                self.assertIs(is_parting_lot(kinds, one, other, lot), True)

    def test_what_is_a_parting_lot(self):
        for kinds, one, other in some_pairs():
            for lot in helper.lots_of(len(one)):
                told = len(lot) in (3, 4) and not joined_among(kinds, one, other, lot)
                self.assertIs(is_parting_lot(kinds, one, other, lot), told)

    def test_any_value_can_be_judged(self):
        strange = [[0] * person for person in range(5)]
        for value in helper.ANYTHING + helper.WRONG_LOTS + [[0, 1, 2, 3, 4], [0, 1], (0, 1, 2), [2, 1, 0], [1, 2, 5]]:
            self.assertIs(is_parting_lot(2, FIVE, strange, value), False)
        self.assertIs(is_parting_lot(2, FIVE, strange, [0, 1, 2]), True)
        self.assertIs(is_parting_lot(2, FIVE, strange, [0, 1, 2, 3]), True)

    def test_fewer_than_three_people(self):
        self.assertEqual([parting_lot(9, [[]], [[]]), parting_lot(9, [[], [1]], [[], [7]])], [None, None])
        self.assertIs(is_parting_lot(9, [[], [1]], [[], [7]], [0, 1]), False)


class LoneCoupleTest(unittest.TestCase):
    def test_the_first_couple_that_stands_alike_in_neither(self):
        for kinds, one, other in list(pairs()) + list(some_pairs()):
            lone = [
                couple for couple in differing(kinds, one, other)
                if not helper.alike_by_definition(one, *couple) and not helper.alike_by_definition(other, *couple)
            ]
            self.assertEqual(lone_couple(kinds, one, other), lone[0] if lone else None)

    def test_joined_companies_have_none_and_come_nearer_by_some_deed(self):
        for kinds, members in small_classes():
            for one in members[:4]:
                for other in members:
                    self.assertIsNone(lone_couple(kinds, one, other))
                    unlike = differing(kinds, one, other)
                    nearer = [
                        deed for deed in deeds(kinds, one)
                        if len(differing(kinds, done(kinds, one, deed), other)) == len(unlike) - 1
                    ]
                    self.assertEqual(bool(nearer), bool(unlike))

    def test_the_other_way_round_this_is_not_so(self):
        three, four = [[], [1], [1, 1]], [[], [0], [0, 1]]
        self.assertIsNone(lone_couple(2, three, four))
        self.assertFalse(are_joined(2, three, four))


class LimitsTest(unittest.TestCase):
    def test_forty_people(self):
        rng = Random(25)
        for kinds in (2, 9):
            grower = helper.Grower(kinds, rng)
            company, _ = grower.shuffled(*grower.grown(grower.tree(40)))
            base = base_of(kinds, company)
            self.assertIsNone(parting_lot(kinds, company, base))
            self.assertIsNone(lone_couple(kinds, company, base))
            for lot in rng.sample(helper.lots_of(40, 4), 50):
                self.assertIs(joined_among(kinds, company, base, lot), True)
                self.assertIs(is_parting_lot(kinds, company, base, lot), False)
            self.assertIs(joined_among(kinds, company, base, list(range(40))), True)

    def test_forty_people_of_a_row_who_are_not_joined(self):
        row = helper.row_of_friends(40)
        other = [list(line) for line in row]
        other[39][38] = 0
        lot = parting_lot(2, row, other)
        self.assertEqual(lot, [37, 38, 39])
        self.assertIs(is_parting_lot(2, row, other, lot), True)
        self.assertEqual(lone_couple(2, row, other), (38, 39))
        self.assertIsNone(parting_lot(2, row, renamed(2, row, list(range(39, -1, -1)))))


if __name__ == "__main__":
    unittest.main()
