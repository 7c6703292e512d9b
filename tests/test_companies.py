"""[6] and [7]: companies, and the deeds that can be done in them."""

import unittest
from itertools import combinations
from random import Random

from tests import helper
from twinties.companies import (
    alike_couples, among, deeds, differing, done, is_company, is_deed, is_road, led, renamed, stand_alike, tie,
)
from twinties.errors import InvalidCompany, InvalidDeed, InvalidLot, InvalidNumber

FOUR = [[], [1], [0, 1], [0, 0, 1]]
THREE = [[], [1], [0, 0]]
SMALL = [(2, 1), (2, 2), (2, 3), (2, 4), (3, 2), (3, 3), (9, 2)]


def small_companies():
    for kinds, people in SMALL:
        for company in helper.companies_of(kinds, people):
            yield kinds, company


class ExamplesTest(unittest.TestCase):
    def test_companies(self):
        self.assertEqual(
            [is_company(2, FOUR), is_company(2, [[], [2]]), is_company(3, [[], [2]]), is_company(2, []),
             is_company(2, [[]])],
            [True, False, True, False, True],
        )
        self.assertEqual(
            [tie(2, FOUR, (1, 2)), stand_alike(2, FOUR, (0, 1)), alike_couples(2, FOUR),
             alike_couples(2, [[], [1], [1, 1]]), alike_couples(2, [[], [0]])],
            [1, False, [], [(0, 1), (0, 2), (1, 2)], [(0, 1)]],
        )
        self.assertEqual(
            [among(2, FOUR, [0, 1, 3]), renamed(2, FOUR, [1, 0, 3, 2]),
             differing(2, FOUR, [[], [1], [1, 1], [0, 0, 0]])],
            [[[], [1], [0, 0]], [[], [1], [0, 0], [1, 0, 1]], [(0, 2), (2, 3)]],
        )

    def test_deeds(self):
        self.assertEqual(
            [deeds(2, THREE), is_deed(2, THREE, (0, 1, 1)), done(2, THREE, (0, 1, 0)), deeds(3, [[], [2]])],
            [[(0, 1, 0)], False, [[], [0], [0, 0]], [(0, 1, 0), (0, 1, 1)]],
        )
        self.assertEqual(
            [is_road(2, THREE, [(0, 1, 0), (1, 2, 1)]), is_road(2, THREE, [(1, 2, 1)]),
             led(2, THREE, [(0, 1, 0), (1, 2, 1)]), led(2, THREE, [])],
            [True, False, [[], [0], [0, 1]], [[], [1], [0, 0]]],
        )


class CompaniesTest(unittest.TestCase):
    def test_what_is_a_company(self):
        for kinds, company in small_companies():
            self.assertIs(is_company(kinds, company), True)
        for wrong in helper.WRONG_COMPANIES + [value for value in helper.ANYTHING if value != [[]]]:
            self.assertIs(is_company(2, wrong), False)
        self.assertIs(is_company(2, [[0] * person for person in range(40)]), True)
        self.assertIs(is_company(9, [[8] * person for person in range(40)]), True)
        self.assertIs(is_company(2, [[0] * person for person in range(41)]), False)
        self.assertIs(is_company(9, [[], [9]]), False)
        self.assertIs(is_company(8, [[], [8]]), False)

    def test_kinds_are_from_2_to_9(self):
        for kinds in range(2, 10):
            self.assertIs(is_company(kinds, [[], [kinds - 1]]), True)
            self.assertIs(is_company(kinds, [[], [kinds]]), False)
        for wrong in helper.WRONG_KINDS:
            helper.refusal(self, InvalidNumber, wrong, is_company, wrong, [[]])

    def test_ties_of_couples(self):
        for kinds, company in small_companies():
            for one, other in helper.couples_of(len(company)):
                self.assertEqual(tie(kinds, company, (one, other)), company[other][one])

    def test_who_stands_alike(self):
        for kinds, company in small_companies():
            couples = helper.couples_of(len(company))
            alike = [couple for couple in couples if helper.alike_by_definition(company, *couple)]
            self.assertEqual(alike_couples(kinds, company), alike)
            for couple in couples:
                self.assertIs(stand_alike(kinds, company, couple), couple in alike)

    def test_one_person_and_two(self):
        self.assertEqual([alike_couples(2, [[]]), deeds(9, [[]]), among(2, [[]], [0])], [[], [], [[]]])
        self.assertEqual([renamed(2, [[]], [0]), differing(2, [[]], [[]]), led(2, [[]], [])], [[[]], [], [[]]])
        self.assertEqual(alike_couples(9, [[], [5]]), [(0, 1)])
        self.assertEqual(deeds(9, [[], [5]]), [(0, 1, kind) for kind in range(9) if kind != 5])
        self.assertEqual(renamed(9, [[], [5]], [1, 0]), [[], [5]])

    def test_the_company_among_a_lot(self):
        for kinds, company in small_companies():
            for lot in helper.lots_of(len(company)):
                inner = among(kinds, company, lot)
                self.assertTrue(is_company(kinds, inner))
                self.assertEqual(len(inner), len(lot))
                for one, other in helper.couples_of(len(lot)):
                    self.assertEqual(inner[other][one], helper.tie_in(company, lot[one], lot[other]))

    def test_people_with_other_numbers(self):
        company = [[], [0], [1, 2], [3, 4, 5], [6, 7, 8, 0]]
        order = [3, 0, 4, 2, 1]
        other = renamed(9, company, order)
        self.assertEqual(other, [[], [3], [0, 6], [5, 1, 8], [4, 0, 7, 2]])
        for one, two in helper.couples_of(5):
            self.assertEqual(other[two][one], helper.tie_in(company, order[one], order[two]))
        self.assertEqual(renamed(9, company, [0, 1, 2, 3, 4]), company)
        for wrong in ([0], [0, 0, 1, 2, 3], [1, 2, 3, 4, 5], (0, 1, 2, 3, 4), [0, 1, 2, 3, True]):
            helper.refusal(self, InvalidLot, wrong, renamed, 9, company, wrong)

    def test_couples_that_differ(self):
        for kinds, people in [(2, 3), (3, 3), (2, 2)]:
            for one in helper.companies_of(kinds, people):
                for other in helper.companies_of(kinds, people):
                    expected = [(low, high) for low, high in helper.couples_of(people) if one[high][low] != other[high][low]]
                    self.assertEqual(differing(kinds, one, other), expected)


class DeedsTest(unittest.TestCase):
    def test_what_is_a_deed(self):
        for kinds, company in small_companies():
            people = range(-1, len(company) + 1)
            expected = [
                (one, other, kind)
                for one, other in helper.couples_of(len(company)) if helper.alike_by_definition(company, one, other)
                for kind in range(kinds) if kind != company[other][one]
            ]
            self.assertEqual(deeds(kinds, company), expected)
            for deed in [(one, other, kind) for one in people for other in people for kind in range(-1, kinds + 1)]:
                self.assertIs(is_deed(kinds, company, deed), deed in expected)
                if deed not in expected:
                    helper.refusal(self, InvalidDeed, deed, done, kinds, company, deed)

    def test_a_deed_puts_its_kind_in_place_of_the_tie_alone(self):
        for kinds, company in small_companies():
            for deed in deeds(kinds, company):
                behind = done(kinds, company, deed)
                one, other, kind = deed
                self.assertEqual(behind[other][one], kind)
                self.assertEqual(differing(kinds, company, behind), [(one, other)])

    def test_the_couple_stands_alike_still_and_the_deed_can_be_taken_back(self):
        for kinds, company in small_companies():
            for one, other, kind in deeds(kinds, company):
                behind = done(kinds, company, (one, other, kind))
                self.assertTrue(stand_alike(kinds, behind, (one, other)))
                self.assertEqual(done(kinds, behind, (one, other, company[other][one])), company)

    def test_a_deed_is_a_deed_among_each_lot_with_both(self):
        for company in helper.companies_of(2, 4):
            for one, other, kind in deeds(2, company):
                for lot in helper.lots_of(4):
                    if one in lot and other in lot:
                        inner = (lot.index(one), lot.index(other), kind)
                        self.assertTrue(is_deed(2, among(2, company, lot), inner))

    def test_deeds_of_more_kinds(self):
        self.assertEqual(done(9, [[], [0], [3, 3]], (0, 1, 8)), [[], [8], [3, 3]])
        self.assertIs(is_deed(9, [[], [0], [3, 3]], (0, 1, 9)), False)
        self.assertIs(is_deed(9, [[], [0], [3, 3]], (0, 1, 0)), False)
        self.assertIs(is_deed(9, [[], [0], [3, 3]], (0, 2, 1)), False)

    def test_wrong_deeds_are_told(self):
        for wrong in ((0, 1, 1), (0, 2, 1), (1, 2, 1), (1, 0, 0), [0, 1, 0], (0, 1, False), (0, 1), None, "010"):
            helper.refusal(self, InvalidDeed, wrong, done, 2, THREE, wrong)
            self.assertIs(is_deed(2, THREE, wrong), False)


class RoadsTest(unittest.TestCase):
    def test_roads_do_their_deeds_one_behind_the_other(self):
        rng = Random(7)
        for kinds, people in [(2, 4), (3, 4), (2, 6), (9, 5)]:
            for _ in range(20):
                company = [[0] * person for person in range(people)]
                behind, road = company, []
                for _ in range(12):
                    road.append(rng.choice(deeds(kinds, behind)))
                    behind = done(kinds, behind, road[-1])
                self.assertTrue(is_road(kinds, company, road))
                self.assertEqual(led(kinds, company, road), behind)
                self.assertTrue(is_road(kinds, behind, [
                    (one, other, led(kinds, company, road[:place])[other][one])
                    for place, (one, other, _) in reversed(list(enumerate(road)))
                ]))

    def test_a_road_that_is_no_list_is_told_whole(self):
        for wrong in (None, (), ((0, 1, 0),), (0, 1, 0), "", 0, {}, True):
            helper.refusal(self, InvalidDeed, wrong, led, 2, THREE, wrong)
            self.assertIs(is_road(2, THREE, wrong), False)

    def test_the_first_item_that_cannot_be_done_is_told(self):
        for place in range(3):
            for wrong in ([0, 1, 0], (1, 2, 0), None, (0, 1), (0, 1, 2), (0, 1, True), (0, 3, 0), "x"):
                road = [(0, 1, 0), (1, 2, 1), (1, 2, 0)][:place] + [wrong, (0, 1), None]
                if wrong == (1, 2, 0) and place == 2:
                    continue
                helper.refusal(self, InvalidDeed, wrong, led, 2, THREE, road)
                self.assertIs(is_road(2, THREE, road), False)

    def test_a_deed_that_could_only_be_done_ahead_is_none_behind(self):
        all_alike = [[], [0], [0, 0]]
        second = (1, 2, 1)
        self.assertTrue(is_deed(2, all_alike, second))
        helper.refusal(self, InvalidDeed, second, led, 2, all_alike, [(0, 1, 1), second])
        self.assertEqual(led(2, all_alike, [(0, 1, 1), (0, 1, 0), second]), [[], [0], [0, 1]])

    def test_a_thousand_deeds_of_forty_people(self):
        company = [[0] * person for person in range(40)]
        road = [(38, 39, kind) for _ in range(500) for kind in (1, 0)]
        self.assertTrue(is_road(2, company, road))
        self.assertEqual(led(2, company, road), company)
        self.assertEqual(led(2, company, road[:-1])[39], [0] * 38 + [1])


class LimitsTest(unittest.TestCase):
    def test_forty_people_and_nine_kinds(self):
        rng = Random(40)
        company = [[rng.randrange(9) for _ in range(person)] for person in range(40)]
        self.assertEqual(among(9, company, list(range(40))), company)
        order = list(range(40))
        rng.shuffle(order)
        other = renamed(9, company, order)
        for one, two in combinations(range(40), 2):
            self.assertEqual(other[two][one], helper.tie_in(company, order[one], order[two]))
        self.assertEqual(tie(9, company, (3, 39)), company[39][3])
        same = [[4] * person for person in range(40)]
        self.assertEqual(alike_couples(9, same), helper.couples_of(40))
        self.assertEqual(len(deeds(9, same)), 780 * 8)
        self.assertEqual(len(differing(9, same, [[5] * person for person in range(40)])), 780)

    def test_one_person_more_is_none(self):
        company = [[0] * person for person in range(41)]
        for function in (alike_couples, deeds):
            helper.refusal(self, InvalidCompany, company, function, 2, company)
        helper.refusal(self, InvalidCompany, company, among, 2, company, [0])
        helper.refusal(self, InvalidCompany, company, differing, 2, [[]], company)


if __name__ == "__main__":
    unittest.main()
