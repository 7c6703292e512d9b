"""[8] to [10]: houses."""

import unittest
from random import Random

from tests import helper
from twinties.companies import renamed, stand_alike
from twinties.errors import InvalidCompany, InvalidLot, InvalidNumber, TooMany
from twinties.houses import all_houses, how_many_houses, is_house, least_house, parting_person

PATH, LINE = [[], [1], [0, 1]], [[], [1], [0, 1], [0, 0, 1]]
SMALL = [(2, 1), (2, 2), (2, 3), (2, 4), (3, 3), (9, 2)]


def some_companies():
    """All small companies, and some of five people and of six."""
    for kinds, people in SMALL:
        for company in helper.companies_of(kinds, people):
            yield kinds, company
    rng = Random(10)
    for kinds in (2, 3):
        for people in (5, 6):
            grower = helper.Grower(kinds, rng)
            for _ in range(40):
                company, _ = grower.shuffled(*grower.grown(grower.tree(people)))
                yield kinds, company


class ExamplesTest(unittest.TestCase):
    def test_houses(self):
        self.assertEqual(
            [is_house(2, PATH, [0, 2]), is_house(2, PATH, [0, 1]), parting_person(2, PATH, [0, 1]),
             parting_person(2, PATH, [1]), least_house(2, PATH, [0, 2]), least_house(2, LINE, [1, 2])],
            [True, False, 2, None, [0, 2], [0, 1, 2, 3]],
        )
        self.assertEqual(
            [how_many_houses(2, PATH), all_houses(2, PATH), how_many_houses(2, LINE),
             how_many_houses(2, [[], [1], [1, 1]]), how_many_houses(9, [[]])],
            [5, [[0], [0, 1, 2], [0, 2], [1], [2]], 5, 7, 1],
        )


class HousesTest(unittest.TestCase):
    def test_houses_and_who_parts_a_lot(self):
        for kinds, company in some_companies():
            people = range(len(company))
            for lot in helper.lots_of(len(company)):
                parting = [
                    person for person in people
                    if person not in lot and len({helper.tie_in(company, person, one) for one in lot}) > 1
                ]
                self.assertIs(is_house(kinds, company, lot), not parting)
                self.assertEqual(parting_person(kinds, company, lot), parting[0] if parting else None)

    def test_one_person_and_all_people_are_houses(self):
        for kinds, company in some_companies():
            for lot in [[person] for person in range(len(company))] + [list(range(len(company)))]:
                self.assertIs(is_house(kinds, company, lot), True)
                self.assertIsNone(parting_person(kinds, company, lot))
                self.assertEqual(least_house(kinds, company, lot), lot)

    def test_two_stand_alike_exactly_if_they_are_a_house(self):
        for kinds, company in some_companies():
            for one, other in helper.couples_of(len(company)):
                self.assertIs(stand_alike(kinds, company, (one, other)), is_house(kinds, company, [one, other]))

    def test_two_houses_with_a_person_in_common(self):
        for kinds, company in some_companies():
            houses = [set(house) for house in helper.houses_by_definition(company)]
            for one in houses:
                for other in houses:
                    if one & other:
                        self.assertTrue(is_house(kinds, company, sorted(one & other)))
                        self.assertTrue(is_house(kinds, company, sorted(one | other)))
                        if not one <= other and not other <= one:
                            self.assertTrue(is_house(kinds, company, sorted(one - other)))

    def test_the_least_house_of_a_lot(self):
        for kinds, company in some_companies():
            houses = helper.houses_by_definition(company)
            for lot in helper.lots_of(len(company)):
                least = least_house(kinds, company, lot)
                self.assertIn(least, houses)
                self.assertTrue(set(lot) <= set(least))
                for house in houses:
                    self.assertTrue(not set(lot) <= set(house) or set(least) <= set(house))

    def test_all_houses_and_how_many(self):
        for kinds, company in some_companies():
            houses = helper.houses_by_definition(company)
            self.assertEqual(all_houses(kinds, company), houses)
            self.assertEqual(how_many_houses(kinds, company), len(houses))

    def test_wrong_lots_are_told(self):
        for wrong in ([], [2, 0], [0, 0], [3], (0, 1), None, [True], [0, True], "0"):
            for function in (is_house, parting_person, least_house):
                helper.refusal(self, InvalidLot, wrong, function, 2, PATH, wrong)


class LimitsTest(unittest.TestCase):
    def test_forty_people_are_counted_without_a_list(self):
        same = [[3] * person for person in range(40)]
        self.assertEqual(how_many_houses(9, same), 2 ** 40 - 1)
        with self.assertRaises(TooMany) as caught:
            all_houses(9, same)
        self.assertEqual(caught.exception.value, 2 ** 40 - 1)
        self.assertEqual(how_many_houses(2, helper.row_of_friends(40)), 41)
        self.assertEqual(len(all_houses(2, helper.row_of_friends(40))), 41)
        self.assertEqual(least_house(2, helper.row_of_friends(40), [17, 18]), list(range(40)))
        self.assertEqual(least_house(9, same, [3, 17, 39]), [3, 17, 39])

    def test_the_bound_of_two_thousand(self):
        # With at most 40 people, 1991 is the greatest number up to 2,000 and 2005 the least one beyond.
        below = helper.layered([10, 8, 7, 6, 5, 3, 1])
        beyond = helper.layered([10, 8, 7, 6, 5, 4])
        self.assertEqual([len(below), how_many_houses(2, below)], [40, 1991])
        self.assertEqual([len(beyond), how_many_houses(2, beyond)], [40, 2005])
        houses = all_houses(2, below)
        self.assertEqual(len(houses), 1991)
        self.assertEqual(houses, sorted(houses))
        self.assertEqual(len({tuple(house) for house in houses}), 1991)
        for house in houses:
            self.assertTrue(is_house(2, below, house))
        with self.assertRaises(TooMany) as caught:
            all_houses(2, beyond)
        self.assertEqual(caught.exception.value, 2005)

    def test_ten_and_eleven_people_of_one_kind(self):
        self.assertEqual(len(all_houses(2, [[1] * person for person in range(10)])), 1023)
        with self.assertRaises(TooMany) as caught:
            all_houses(2, [[1] * person for person in range(11)])
        self.assertEqual(caught.exception.value, 2047)

    def test_too_many_stands_behind_the_other_errors(self):
        many = [[2] * person for person in range(20)]
        helper.refusal(self, InvalidNumber, 1, all_houses, 1, many)
        helper.refusal(self, InvalidCompany, many, all_houses, 2, many)

    def test_large_companies_with_told_knots(self):
        rng = Random(20)
        for kinds in (2, 3, 9):
            grower = helper.Grower(kinds, rng)
            for _ in range(6):
                company, knots = grower.shuffled(*grower.grown(grower.tree(40)))
                more = [2 ** len(parts) - 2 - len(parts) for _, kind, parts in knots if kind is not None]
                self.assertEqual(how_many_houses(kinds, company), 40 + len(knots) + sum(more))
                for people, _, _ in knots:
                    self.assertEqual(least_house(kinds, company, people), people)
                order = list(range(40))
                rng.shuffle(order)
                self.assertEqual(how_many_houses(kinds, renamed(kinds, company, order)), 40 + len(knots) + sum(more))


if __name__ == "__main__":
    unittest.main()
