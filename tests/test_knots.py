"""[11] to [13]: knots, the strong houses of two people and more."""

import unittest
from itertools import combinations
from random import Random

from tests import helper
from tests.test_houses import some_companies
from twinties.companies import among, renamed
from twinties.errors import InvalidLot
from twinties.houses import all_houses, how_many_houses, is_house
from twinties.knots import is_strong, knot_of, knots

PATH, LINE, THREE = [[], [1], [0, 1]], [[], [1], [0, 1], [0, 0, 1]], [[], [0], [1, 2]]


class ExamplesTest(unittest.TestCase):
    def test_knots(self):
        self.assertEqual(
            [is_strong(2, PATH, [0, 2]), is_strong(2, [[], [1], [1, 1]], [0, 1]), is_strong(2, PATH, [1, 2]),
             knots(2, PATH), knots(2, [[]])],
            [True, False, False, [([0, 1, 2], 1, [[0, 2], [1]]), ([0, 2], 0, [[0], [2]])], []],
        )
        self.assertEqual(
            [knots(2, LINE), knots(3, THREE), knots(2, [[], [1], [1, 1]]), knot_of(2, PATH, [0, 2]),
             knot_of(2, PATH, [1])],
            [[([0, 1, 2, 3], None, [[0], [1], [2], [3]])], [([0, 1, 2], None, [[0], [1], [2]])],
             [([0, 1, 2], 1, [[0], [1], [2]])], [0, 2], [1]],
        )


class KnotsTest(unittest.TestCase):
    def test_strong_houses(self):
        for kinds, company in some_companies():
            strong = helper.strong_by_definition(company)
            for lot in helper.lots_of(len(company)):
                self.assertIs(is_strong(kinds, company, lot), lot in strong)

    def test_knots_with_their_kinds_and_parts(self):
        for kinds, company in some_companies():
            self.assertEqual(knots(kinds, company), helper.knots_by_definition(company))

    def test_just_one_of_two_things_holds_at_a_knot(self):
        for kinds, company in some_companies():
            told = {tuple(people): kind for people, kind, _ in knots(kinds, company)}
            for people, kind, parts in knots(kinds, company):
                for many in range(2, len(parts)):
                    for chosen in combinations(parts, many):
                        lot = sorted(person for part in chosen for person in part)
                        self.assertIs(is_house(kinds, company, lot), kind is not None)
                if kind is None:
                    self.assertGreaterEqual(len(parts), 4 if kinds == 2 else 3)
                else:
                    self.assertNotIn(kind, [told.get(tuple(part)) for part in parts])

    def test_the_number_of_houses_by_knots(self):
        for kinds, company in some_companies():
            tree = knots(kinds, company)
            more = [2 ** len(parts) - 2 - len(parts) for _, kind, parts in tree if kind is not None]
            self.assertEqual(how_many_houses(kinds, company), len(company) + len(tree) + sum(more))

    def test_the_least_strong_house_that_holds_a_lot(self):
        for kinds, company in some_companies():
            strong = helper.strong_by_definition(company)
            for lot in helper.lots_of(len(company)):
                holding = [house for house in strong if set(lot) <= set(house)]
                self.assertEqual(knot_of(kinds, company, lot), min(holding, key=len))

    def test_ties_of_people_of_unlike_parts_are_told_by_the_parts(self):
        for kinds, company in some_companies():
            for _, _, parts in knots(kinds, company):
                for one, other in combinations(parts, 2):
                    self.assertEqual(len({helper.tie_in(company, a, b) for a in one for b in other}), 1)

    def test_people_with_other_numbers_have_the_same_knots(self):
        rng = Random(13)
        for kinds, company in some_companies():
            order = list(range(len(company)))
            rng.shuffle(order)
            back = [
                (sorted(order[one] for one in people), kind, sorted(sorted(order[one] for one in lot) for lot in parts))
                for people, kind, parts in knots(kinds, renamed(kinds, company, order))
            ]
            self.assertEqual(sorted(back, key=lambda knot: knot[0]), knots(kinds, company))

    def test_among_a_house_there_are_just_the_houses_within_it(self):
        for kinds, company in some_companies():
            houses = all_houses(kinds, company)
            for house in houses:
                inner = [[house[one] for one in lot] for lot in all_houses(kinds, among(kinds, company, house))]
                self.assertEqual(inner, [lot for lot in houses if set(lot) <= set(house)])

    def test_a_twin_knot_and_one_person(self):
        self.assertEqual(knots(9, [[], [7]]), [([0, 1], 7, [[0], [1]])])
        self.assertEqual([knots(9, [[]]), is_strong(9, [[]], [0]), knot_of(9, [[]], [0])], [[], True, [0]])
        self.assertEqual([knot_of(9, [[], [7]], [0, 1]), knot_of(9, [[], [7]], [1])], [[0, 1], [1]])

    def test_wrong_lots_are_told(self):
        for wrong in ([], [2, 0], [0, 0], [3], (0, 1), None, [True], [0, True], "0"):
            for function in (is_strong, knot_of):
                helper.refusal(self, InvalidLot, wrong, function, 2, PATH, wrong)


class AskedOftenTest(unittest.TestCase):
    """Inputs that were slow; asked again and again, they have the same answers."""

    def ask(self, expected, function, *arguments):
        for _ in range(50):
            self.assertEqual(function(*arguments), expected)

    def test_forty_people_in_layers_of_two_kinds(self):
        layers = [[size - 2 * (size // 2)] * size for size in range(40)]
        expected = [(list(range(many)), (many - 1) % 2, [list(range(many - 1)), [many - 1]]) for many in range(2, 41)]
        self.ask(expected, knots, 2, layers)
        self.ask(list(range(22)), knot_of, 2, layers, [0, 7, 21])

    def test_forty_people_of_one_kind(self):
        same = [[2] * size for size in range(40)]
        self.ask([(list(range(40)), 2, [[person] for person in range(40)])], knots, 3, same)

    def test_eighteen_people_in_a_row(self):
        row = [[]] + [[0] * (size - 1) + [1] for size in range(1, 18)]
        self.ask([(list(range(18)), None, [[person] for person in range(18)])], knots, 2, row)


class LimitsTest(unittest.TestCase):
    def test_large_companies_with_told_knots(self):
        rng = Random(12)
        for kinds in range(2, 10):
            grower = helper.Grower(kinds, rng)
            for _ in range(4):
                company, told = grower.shuffled(*grower.grown(grower.tree(40)))
                self.assertEqual(knots(kinds, company), told)
                for people, _, parts in told:
                    self.assertTrue(is_strong(kinds, company, people))
                    self.assertEqual(knot_of(kinds, company, sorted([parts[0][0], parts[-1][-1]])), people)

    def test_forty_people_in_a_row_and_in_layers(self):
        single = [[person] for person in range(40)]
        self.assertEqual(knots(2, helper.row_of_friends(40)), [(list(range(40)), None, single)])
        self.assertEqual(knots(2, [[1] * person for person in range(40)]), [(list(range(40)), 1, single)])
        layers = helper.layered([1] * 40, 9)
        self.assertEqual(
            knots(9, layers),
            [(list(range(many)), (many - 1) % 9, [list(range(many - 1)), [many - 1]]) for many in range(2, 41)],
        )
        self.assertEqual(knot_of(9, layers, [3, 20]), list(range(21)))

    def test_three_parts_are_prime_with_three_kinds(self):
        # Three parts of 13, 13 and 14 people: no two of them have the same tie between them.
        part = [0] * 13 + [1] * 13 + [2] * 14
        company = [
            [3 if part[one] == part[other] else part[one] + part[other] - 1 for one in range(other)]
            for other in range(40)
        ]
        parts = [list(range(13)), list(range(13, 26)), list(range(26, 40))]
        self.assertEqual(
            knots(4, company),
            sorted([(list(range(40)), None, parts)] + [(lot, 3, [[one] for one in lot]) for lot in parts]),
        )


if __name__ == "__main__":
    unittest.main()
