"""[14] to [16]: the tree let down, the base, and which companies are joined."""

import unittest
from functools import lru_cache
from random import Random

from tests import helper
from tests.test_houses import some_companies
from twinties.companies import deeds, differing, done, renamed
from twinties.errors import InvalidCompany, Unlike
from twinties.groups import groups_of
from twinties.knots import knots
from twinties.letdown import are_joined, base_of, knots_left, parting_couple

FIVE, ROW = [[], [1], [1, 1], [0, 0, 0], [0, 0, 0, 1]], [[], [1], [0, 1], [0, 0, 1]]
TWIN = [[], [1], [0, 1], [0, 0, 1], [1, 2, 1, 0]]


@lru_cache
def classes(kinds, people):
    return helper.classes_by_deeds(kinds, people)


def small_classes():
    """The classes of all small companies, as rows of deeds make them."""
    for kinds, people in [(2, 1), (2, 2), (2, 3), (2, 4), (3, 3), (9, 2)]:
        for members in classes(kinds, people):
            yield kinds, members


def let_down(people, tree):
    """The knots left and the groups, told from the knots of a company as [14] and [17] say."""
    if people == 2:
        return [([0, 1], None)], [([0, 1], None)]
    left, groups = [], []
    for whole, kind, parts in tree:
        twins = [part for part in parts if len(part) == 2]
        if len(whole) > 2:
            left.append((whole, kind))
            if kind is None:
                left.extend((twin, None) for twin in twins)
                groups.extend((twin, None) for twin in twins)
            else:
                singles = [part[0] for part in parts if len(part) == 1]
                singles = sorted(singles + [one for twin in twins for one in twin])
                groups.extend([(singles, kind)] if len(singles) > 1 else [])
    return sorted(left, key=lambda knot: knot[0]), sorted(groups, key=lambda group: group[0])


def based(company, groups):
    base = [list(row) for row in company]
    for people, kind in groups:
        for one in people:
            for other in people:
                if one < other:
                    base[other][one] = kind or 0
    return base


class ExamplesTest(unittest.TestCase):
    def test_the_tree_let_down(self):
        self.assertEqual(
            [knots_left(2, FIVE), base_of(2, FIVE)],
            [[([0, 1, 2], 1), ([0, 1, 2, 3, 4], 0)], [[], [1], [1, 1], [0, 0, 0], [0, 0, 0, 0]]],
        )
        self.assertEqual(
            [knots_left(2, ROW), knots_left(3, TWIN)],
            [[([0, 1, 2, 3], None)], [([0, 1, 2, 3, 4], None), ([1, 4], None)]],
        )
        self.assertEqual(
            [are_joined(2, FIVE, base_of(2, FIVE)), are_joined(2, ROW, [[], [1], [1, 1], [0, 0, 1]]),
             parting_couple(2, ROW, [[], [1], [1, 1], [0, 0, 1]])],
            [True, False, (0, 1)],
        )
        self.assertEqual(
            [base_of(2, [[], [1]]), knots_left(4, [[]]), are_joined(3, [[], [2]], [[], [1]])],
            [[[], [0]], [], True],
        )


class LetDownTest(unittest.TestCase):
    def test_knots_left_and_base_by_the_knots(self):
        for kinds, company in some_companies():
            left, groups = let_down(len(company), knots(kinds, company))
            self.assertEqual(knots_left(kinds, company), left)
            self.assertEqual(base_of(kinds, company), based(company, groups))

    def test_a_twin_knot_at_a_knot_of_a_kind(self):
        # 0 and 1 are friends, 2 is a stranger to both: the twin knot hangs at a knot of the kind 0.
        self.assertEqual(knots_left(2, [[], [1], [0, 0]]), [([0, 1, 2], 0)])
        self.assertEqual(base_of(2, [[], [1], [0, 0]]), [[], [0], [0, 0]])
        two_pairs = [[], [1], [0, 0], [0, 0, 1]]
        self.assertEqual(knots_left(2, two_pairs), [([0, 1, 2, 3], 0)])
        self.assertEqual(base_of(2, two_pairs), [[], [0], [0, 0], [0, 0, 0]])

    def test_a_twin_knot_at_a_prime_knot(self):
        for kind in range(3):
            company = TWIN[:4] + [[1, kind, 1, 0]]
            self.assertEqual(knots_left(3, company), [([0, 1, 2, 3, 4], None), ([1, 4], None)])
            self.assertEqual(base_of(3, company), TWIN[:4] + [[1, 0, 1, 0]])

    def test_a_twin_knot_by_itself_and_one_person(self):
        for kind in range(9):
            self.assertEqual(knots_left(9, [[], [kind]]), [([0, 1], None)])
            self.assertEqual(base_of(9, [[], [kind]]), [[], [0]])
        self.assertEqual([knots_left(9, [[]]), base_of(9, [[]])], [[], [[]]])
        self.assertEqual([are_joined(9, [[]], [[]]), parting_couple(9, [[]], [[]])], [True, None])

    def test_a_knot_of_three_is_not_let_down(self):
        # The friends 0, 1 and 2 are three: their knot stays, also below a knot of another kind.
        company = [[], [1], [1, 1], [0, 0, 0]]
        self.assertEqual(knots_left(2, company), [([0, 1, 2], 1), ([0, 1, 2, 3], 0)])
        self.assertEqual(base_of(2, company), company)

    def test_deeds_change_neither_the_tree_let_down_nor_the_base(self):
        for kinds, company in some_companies():
            for deed in deeds(kinds, company)[:6]:
                behind = done(kinds, company, deed)
                self.assertEqual(knots_left(kinds, behind), knots_left(kinds, company))
                self.assertEqual(base_of(kinds, behind), base_of(kinds, company))

    def test_the_base_is_joined_with_the_company_and_its_own_base(self):
        for kinds, members in small_classes():
            for company in members:
                base = base_of(kinds, company)
                self.assertIn(base, members)
                self.assertEqual(base_of(kinds, base), base)

    def test_no_twin_knot_is_left_at_a_knot_of_a_kind(self):
        for kinds, company in some_companies():
            left = knots_left(kinds, company)
            for people, kind in left:
                if len(people) == 2:
                    self.assertIsNone(kind)
                    above = [other for other in left if set(people) < set(other[0])]
                    self.assertTrue(not above or min(above, key=lambda knot: len(knot[0]))[1] is None)


class JoinedTest(unittest.TestCase):
    def test_joined_are_just_those_that_rows_of_deeds_lead_to(self):
        for kinds, people in [(2, 1), (2, 2), (2, 3), (2, 4), (3, 3), (9, 2)]:
            number = {repr(company): at for at, row in enumerate(classes(kinds, people)) for company in row}
            for one in helper.companies_of(kinds, people):
                for other in helper.companies_of(kinds, people):
                    joined = number[repr(one)] == number[repr(other)]
                    self.assertIs(are_joined(kinds, one, other), joined)
                    unlike = differing(kinds, base_of(kinds, one), base_of(kinds, other))
                    self.assertEqual(parting_couple(kinds, one, other), unlike[0] if unlike else None)
                    self.assertIs(parting_couple(kinds, one, other) is None, joined)

    def test_joined_are_those_with_the_same_groups_and_the_same_other_ties(self):
        for kinds, people in [(2, 2), (2, 3), (2, 4), (3, 3)]:
            for one in helper.companies_of(kinds, people):
                groups = groups_of(kinds, one)
                for other in helper.companies_of(kinds, people):
                    alike = groups == groups_of(kinds, other) and all(
                        any(low in lot and high in lot for lot, _ in groups) for low, high in differing(kinds, one, other)
                    )
                    self.assertIs(are_joined(kinds, one, other), alike)

    def test_five_people_in_their_classes(self):
        rng = Random(16)
        numbers, found = {}, 0
        for company in helper.companies_of(2, 5):
            numbers.setdefault(repr(base_of(2, company)), []).append(company)
        # So many classes of five people and two kinds the document tells in [38].
        self.assertEqual(len(numbers), 504)
        for members in numbers.values():
            company = rng.choice(members)
            reached = [company]
            for one in reached:
                for deed in deeds(2, one):
                    behind = done(2, one, deed)
                    if behind not in reached:
                        reached.append(behind)
            self.assertEqual(sorted(reached), members)
            found += len(reached)
        self.assertEqual(found, 1024)

    def test_errors_of_two_companies(self):
        helper.refusal(self, InvalidCompany, None, are_joined, 2, None, ROW)
        wrong = [[0]]
        helper.refusal(self, InvalidCompany, wrong, parting_couple, 2, ROW, wrong)
        helper.refusal(self, InvalidCompany, wrong, are_joined, 2, wrong, None)
        helper.refusal(self, Unlike, FIVE, are_joined, 2, ROW, FIVE)
        helper.refusal(self, Unlike, ROW, parting_couple, 2, FIVE, ROW)


class LimitsTest(unittest.TestCase):
    def test_large_companies_with_told_knots(self):
        rng = Random(14)
        for kinds in range(2, 10):
            grower = helper.Grower(kinds, rng)
            for _ in range(4):
                company, tree = grower.shuffled(*grower.grown(grower.tree(40)))
                left, groups = let_down(40, tree)
                base = based(company, groups)
                self.assertEqual(knots_left(kinds, company), left)
                self.assertEqual(base_of(kinds, company), base)
                self.assertTrue(are_joined(kinds, company, base))
                self.walk(kinds, company, rng, left, base)

    def walk(self, kinds, company, rng, left, base):
        """Do some deeds: nothing of the tree let down changes."""
        behind = company
        for _ in range(4):
            ready = deeds(kinds, behind)
            if ready:
                behind = done(kinds, behind, rng.choice(ready))
        self.assertEqual(knots_left(kinds, behind), left)
        self.assertEqual(base_of(kinds, behind), base)
        self.assertTrue(are_joined(kinds, company, behind))
        self.assertIsNone(parting_couple(kinds, behind, company))

    def test_forty_people_who_are_not_joined(self):
        company = helper.row_of_friends(40)
        other = [list(row) for row in company]
        other[39][7] = 1
        self.assertFalse(are_joined(2, company, other))
        self.assertEqual(parting_couple(2, company, other), (7, 39))
        order = list(range(39, -1, -1))
        self.assertEqual(parting_couple(2, renamed(2, company, order), company), None)


if __name__ == "__main__":
    unittest.main()
