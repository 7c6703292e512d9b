"""[31], [32]: what lies between three companies, and persons who come."""

import unittest
from itertools import product
from random import Random

from tests import helper
from tests.test_roads import HIGH, LOW, ONE, OTHER, bundles_by_definition, member_by_chance, persons_of
from twinties.comers import how_many_stay, middle, stay_joined
from twinties.companies import differing
from twinties.errors import InvalidCompany, InvalidNumber, Unlike
from twinties.letdown import are_joined
from twinties.roads import distance, is_between

PLAIN = [[], [0], [0, 0], [0, 0, 0]]


def some_rows(many, most):
    """Webs with the numbers of so many companies in them; all rows of them, or some."""
    rng = Random(31)
    for web in helper.webs():
        places = range(len(web.members))
        if len(web.members) ** many <= most:
            for row in product(places, repeat=many):
                yield web, row
        else:
            for _ in range(most):
                yield web, tuple(rng.choice(places) for _ in range(many))


def come(company, ties):
    return [list(row) for row in company] + [list(ties)]


class ExamplesTest(unittest.TestCase):
    def test_middle(self):
        self.assertEqual(
            [middle(2, ONE, OTHER, PLAIN), middle(2, ONE, ONE, OTHER), middle(3, [[], [0]], [[], [1]], [[], [2]])],
            [PLAIN, ONE, None],
        )

    def test_comers(self):
        self.assertEqual(
            [stay_joined(2, ONE, OTHER, [1, 1, 1, 1]), stay_joined(2, ONE, OTHER, [1, 1, 0, 0]),
             how_many_stay(2, ONE, OTHER), how_many_stay(2, LOW, HIGH), how_many_stay(3, [[]], [[]])],
            [True, False, 2, 2, 3],
        )


class MiddleTest(unittest.TestCase):
    def test_the_one_company_between_each_two_of_three(self):
        for web, (first, second, third) in some_rows(3, 350):
            between = set(web.between(first, second)) & set(web.between(second, third)) & set(web.between(first, third))
            self.assertLessEqual(len(between), 1)
            rows = [web.members[place] for place in (first, second, third)]
            found = middle(web.kinds, *rows)
            self.assertEqual(found, web.members[between.pop()] if between else None)
            three_unlike = any(
                len({row[high][low] for row in rows}) == 3 for low, high in helper.couples_of(len(rows[0]))
            )
            self.assertIs(found is None, three_unlike)
            if web.kinds == 2:
                self.assertIsNotNone(found)

    def test_the_order_of_the_three_does_not_matter(self):
        for web, (first, second, third) in some_rows(3, 60):
            a, b, c = web.members[first], web.members[second], web.members[third]
            for order in ((a, c, b), (b, a, c), (c, b, a)):
                self.assertEqual(middle(web.kinds, *order), middle(web.kinds, a, b, c))

    def test_of_two_that_are_unlike_the_first_is_told(self):
        row = helper.row_of_friends(4)
        helper.refusal(self, Unlike, row, middle, 2, ONE, row, LOW)
        helper.refusal(self, Unlike, LOW, middle, 2, ONE, LOW, row)
        helper.refusal(self, Unlike, row, middle, 2, ONE, OTHER, row)
        helper.refusal(self, Unlike, LOW, middle, 2, ONE, OTHER, LOW)
        helper.refusal(self, Unlike, ONE, middle, 2, LOW, ONE, HIGH)
        again = [list(line) for line in ONE]
        helper.refusal(self, Unlike, again, middle, 2, row, again, row)

    def test_wrong_companies_are_told_in_order_and_ahead_of_unlike_ones(self):
        for wrong in helper.WRONG_COMPANIES:
            helper.refusal(self, InvalidCompany, wrong, middle, 2, wrong, {}, None)
            helper.refusal(self, InvalidCompany, wrong, middle, 2, ONE, wrong, None)
            helper.refusal(self, InvalidCompany, wrong, middle, 2, ONE, OTHER, wrong)
            helper.refusal(self, InvalidCompany, wrong, middle, 2, ONE, LOW, wrong)
            helper.refusal(self, InvalidNumber, True, middle, True, wrong, wrong, wrong)

    def test_a_loose_pair_with_more_kinds_and_one_person(self):
        for kinds in product(range(4), repeat=3):
            found = middle(4, *[[[], [kind]] for kind in kinds])
            most = [kind for kind in kinds if kinds.count(kind) >= 2]
            self.assertEqual(found, [[], [most[0]]] if most else None)
        self.assertEqual(middle(2, [[]], [[]], [[]]), [[]])


class StayTest(unittest.TestCase):
    def test_who_stays_joined_when_a_person_comes(self):
        for web, (start, end) in some_rows(2, 40):
            one, other = web.members[start], web.members[end]
            lists = list(product(range(web.kinds), repeat=len(one))) if web.kinds ** len(one) <= 300 else []
            staying = 0
            for ties in lists:
                stay = are_joined(web.kinds, come(one, ties), come(other, ties))
                self.assertIs(stay_joined(web.kinds, one, other, list(ties)), stay)
                staying += stay
                if stay:
                    self.assertEqual(distance(web.kinds, come(one, ties), come(other, ties)), web.far[start][end])
            if lists:
                self.assertEqual(how_many_stay(web.kinds, one, other), staying)

    def test_by_rows_of_deeds(self):
        for one, other in (([[], [0], [0, 0]], [[], [1], [0, 0]]), ([[], [1]], [[], [0]]), (ONE, OTHER)):
            for ties in product(range(2), repeat=len(one)):
                web = helper.Web(2, come(one, ties))
                self.assertIs(stay_joined(2, one, other, list(ties)), come(other, ties) in web.members)

    def test_how_many_by_people_and_bundles(self):
        for web, (start, end) in some_rows(2, 1000):
            couples = differing(web.kinds, web.members[start], web.members[end])
            people = len(web.members[start]) - len(persons_of(couples))
            many = web.kinds ** (people + len(bundles_by_definition(couples)))
            self.assertEqual(how_many_stay(web.kinds, web.members[start], web.members[end]), many)

    def test_equal_companies_stay_joined_with_any_ties(self):
        row = helper.row_of_friends(4)
        self.assertEqual(how_many_stay(3, row, row), 81)
        for ties in product(range(3), repeat=4):
            self.assertIs(stay_joined(3, row, row, list(ties)), True)

    def test_companies_that_are_not_joined_are_told_ahead_of_the_ties(self):
        row = helper.row_of_friends(4)
        for ties in ([0, 0, 0, 0], [0], None, [0, 0, 0, 2]):
            helper.refusal(self, Unlike, row, stay_joined, 2, ONE, row, ties)
            helper.refusal(self, Unlike, ONE, stay_joined, 2, row, ONE, ties)
            helper.refusal(self, Unlike, LOW, stay_joined, 2, ONE, LOW, ties)
            helper.refusal(self, InvalidCompany, None, stay_joined, 2, ONE, None, ties)
            helper.refusal(self, InvalidCompany, (), stay_joined, 2, (), None, ties)
        helper.refusal(self, Unlike, row, how_many_stay, 2, ONE, row)
        helper.refusal(self, Unlike, LOW, how_many_stay, 2, ONE, LOW)
        helper.refusal(self, InvalidCompany, None, how_many_stay, 2, ONE, None)

    def test_wrong_ties_are_told(self):
        for wrong in (
            None, True, 0, "0000", "", (), (0, 0, 0, 0), {}, [], [0], [0, 0, 0], [0, 0, 0, 0, 0], [0, 0, 0, 2],
            [0, 0, 0, -1], [0, 0, 0, True], [False, 0, 0, 0], [0, 0, None, 0], [0, "0", 0, 0], [[0], 0, 0, 0],
            [0, 0, 0, helper.THIRTY_FIGURES],
        ):
            helper.refusal(self, InvalidCompany, wrong, stay_joined, 2, ONE, OTHER, wrong)
            helper.refusal(self, InvalidCompany, wrong, stay_joined, 2, ONE, ONE, wrong)


class LimitsTest(unittest.TestCase):
    def test_middles_of_forty_people(self):
        rng = Random(32)
        for kinds in range(2, 10):
            company, _ = helper.Grower(kinds, rng).grown(helper.Grower(kinds, rng).tree(40))
            for start in (company, [[1] * person for person in range(40)]):
                one, other, third = [member_by_chance(rng, kinds, start) for _ in range(3)]
                found = middle(kinds, one, other, third)
                if kinds == 2 or found is not None:
                    for a, b in ((one, other), (other, third), (one, third)):
                        self.assertIs(is_between(kinds, a, b, found), True)

    def test_thirty_nine_and_forty_people(self):
        rng = Random(39)
        for people in (38, 39):
            for kinds in (2, 5, 9):
                same = [[1] * person for person in range(people)]
                one, other = [member_by_chance(rng, kinds, same) for _ in range(2)]
                couples = differing(kinds, one, other)
                for ties in ([0] * people, [at % kinds for at in range(people)], [0] * (people - 1) + [1]):
                    stay = all(ties[low] == ties[high] for low, high in couples)
                    self.assertIs(stay_joined(kinds, one, other, ties), stay)
                    self.assertIs(are_joined(kinds, come(one, ties), come(other, ties)), stay)
                free = people - len(persons_of(couples)) + len(bundles_by_definition(couples))
                self.assertEqual(how_many_stay(kinds, one, other), kinds ** free)
        # Nothing is refused beyond the limit: with 40 people it is told by the couples alone.
        same = [[1] * person for person in range(40)]
        other = [list(row) for row in same]
        other[39][38] = 0
        self.assertIs(stay_joined(2, same, other, [0] * 38 + [1, 1]), True)
        self.assertIs(stay_joined(2, same, other, [0] * 39 + [1]), False)
        self.assertEqual([how_many_stay(9, same, other), how_many_stay(9, same, same)], [9 ** 39, 9 ** 40])


if __name__ == "__main__":
    unittest.main()
