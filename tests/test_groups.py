"""[17] to [19]: groups, marks and movers."""

import unittest
from itertools import combinations, product
from random import Random

from tests import helper
from tests.test_houses import some_companies
from tests.test_letdown import FIVE, ROW, TWIN, let_down, small_classes
from twinties.companies import alike_couples, deeds, done
from twinties.errors import InvalidWishes
from twinties.groups import groups_of, marked, marks_of, movers
from twinties.knots import knots
from twinties.letdown import are_joined, base_of


def marks_that_fit(kinds, groups):
    """Each list of marks that [18] allows with such groups."""
    found = [[]]
    for people, base in groups:
        found = [ahead + marks for ahead in found for marks in marks_of_one(kinds, people, base)]
    return [sorted(marks) for marks in found]


def marks_of_one(kinds, people, base):
    couples = list(combinations(people, 2))
    told = [kind for kind in range(kinds) if kind != base]
    sizes = range(len(people) // 2 + 1) if base is not None else [1]
    for size in sizes:
        for chosen in combinations(couples, size):
            if len({person for couple in chosen for person in couple}) == 2 * size:
                for dyes in product(told, repeat=size):
                    yield [(*couple, kind) for couple, kind in zip(chosen, dyes)]


class ExamplesTest(unittest.TestCase):
    def test_groups_and_marks(self):
        self.assertEqual(
            [groups_of(2, FIVE), marks_of(2, FIVE)], [[([0, 1, 2], 1), ([3, 4], 0)], [(3, 4, 1)]],
        )
        self.assertEqual(
            [movers(2, FIVE), marked(2, FIVE, [(0, 2, 0)]), marked(2, FIVE, [])],
            [[0, 1, 2, 3, 4], [[], [1], [0, 1], [0, 0, 0], [0, 0, 0, 0]],
             [[], [1], [1, 1], [0, 0, 0], [0, 0, 0, 0]]],
        )
        self.assertEqual(
            [groups_of(2, ROW), groups_of(3, TWIN), marks_of(3, TWIN), movers(3, TWIN)],
            [[], [([1, 4], None)], [(1, 4, 2)], [1, 4]],
        )
        self.assertEqual([groups_of(2, [[], [1]]), groups_of(4, [[]])], [[([0, 1], None)], []])


class GroupsTest(unittest.TestCase):
    def test_groups_by_the_knots(self):
        for kinds, company in some_companies():
            groups = let_down(len(company), knots(kinds, company))[1]
            self.assertEqual(groups_of(kinds, company), groups)
            people = sorted(person for lot, _ in groups for person in lot)
            self.assertEqual(movers(kinds, company), people)
            self.assertEqual(len(set(people)), len(people))

    def test_joined_companies_have_the_same_groups(self):
        for kinds, members in small_classes():
            for company in members:
                self.assertEqual(groups_of(kinds, company), groups_of(kinds, members[0]))
        for kinds, company in some_companies():
            for deed in deeds(kinds, company)[:6]:
                self.assertEqual(groups_of(kinds, done(kinds, company, deed)), groups_of(kinds, company))

    def test_twin_knots_at_a_kind_at_a_prime_knot_and_by_themselves(self):
        self.assertEqual(groups_of(2, [[], [1], [0, 0]]), [([0, 1, 2], 0)])
        self.assertEqual(marks_of(2, [[], [1], [0, 0]]), [(0, 1, 1)])
        self.assertEqual(groups_of(3, TWIN), [([1, 4], None)])
        for kind in range(9):
            self.assertEqual(groups_of(9, [[], [kind]]), [([0, 1], None)])
            self.assertEqual(marks_of(9, [[], [kind]]), [(0, 1, kind)])
            self.assertEqual(movers(9, [[], [kind]]), [0, 1])
        self.assertEqual([groups_of(9, [[]]), marks_of(9, [[]]), movers(9, [[]])], [[], [], []])

    def test_one_single_person_is_no_group(self):
        # At the knot of the kind 0 hang a knot of three friends and one person.
        self.assertEqual(groups_of(2, [[], [1], [1, 1], [0, 0, 0]]), [([0, 1, 2], 1)])
        self.assertEqual(movers(2, [[], [1], [1, 1], [0, 0, 0]]), [0, 1, 2])

    def test_two_stand_alike_by_groups_and_marks(self):
        for kinds, company in some_companies():
            groups, marks = groups_of(kinds, company), marks_of(kinds, company)
            mate = {one: other for a, b, _ in marks for one, other in ((a, b), (b, a))}
            for one, other in helper.couples_of(len(company)):
                together = any(one in people and other in people for people, _ in groups)
                free = mate.get(one) == other or (one not in mate and other not in mate)
                self.assertIs((one, other) in alike_couples(kinds, company), together and free)

    def test_movers_are_those_with_a_tie_that_changes(self):
        for kinds, members in small_classes():
            people = range(len(members[0]))
            moving = [
                person for person in people if any(
                    len({helper.tie_in(company, person, other) for company in members}) > 1
                    for other in people if other != person
                )
            ]
            for company in members:
                self.assertEqual(movers(kinds, company), moving)


class MarksTest(unittest.TestCase):
    def test_marks_by_definition(self):
        for kinds, company in some_companies():
            expected = sorted(
                (one, other, company[other][one]) for people, base in groups_of(kinds, company)
                for one, other in combinations(people, 2) if company[other][one] != base
            )
            self.assertEqual(marks_of(kinds, company), expected)
            named = [person for one, other, _ in expected for person in (one, other)]
            self.assertEqual(len(set(named)), len(named))

    def test_each_list_of_marks_makes_just_one_company_of_the_class(self):
        for kinds, members in small_classes():
            lists = marks_that_fit(kinds, groups_of(kinds, members[0]))
            for company in members[:3]:
                self.assertEqual(sorted(marked(kinds, company, marks) for marks in lists), members)
                for marks in lists:
                    self.assertEqual(marks_of(kinds, marked(kinds, company, marks)), marks)

    def test_a_company_has_its_own_marks(self):
        for kinds, company in some_companies():
            self.assertEqual(marked(kinds, company, marks_of(kinds, company)), company)
            self.assertEqual(marked(kinds, base_of(kinds, company), marks_of(kinds, company)), company)

    def test_wrong_marks_are_told(self):
        same = [[0] * person for person in range(5)]
        for wrong in (
            [(0, 1, 0)], [(0, 1, 3)], [(0, 1, -1)], [(0, 1, True)], [(1, 0, 1)], [(0, 0, 1)], [(0, 5, 1)], [[0, 1, 1]],
            [(0, 1, 1), (1, 2, 1)], [(0, 1, 1), (0, 1, 2)], [(0, 1, 1), (0, 1, 1)], [(2, 3, 1), (0, 1, 1)], ((0, 1, 1),),
            [(0, 1, 1), (2, 3, 1), None], None, {}, [(0, 1)], [None], [(0, 1, 1), (2, 3, 0)], "011",
        ):
            helper.refusal(self, InvalidWishes, wrong, marked, 3, same, wrong)
        self.assertEqual(marks_of(3, marked(3, same, [(0, 4, 2), (1, 3, 1)])), [(0, 4, 2), (1, 3, 1)])

    def test_a_loose_pair_needs_just_one_mark(self):
        for wrong in ([], [(1, 4, 3)], [(1, 4, 0), (1, 4, 1)], [(0, 1, 0)], [(4, 1, 0)], [(1, 4, False)], None):
            helper.refusal(self, InvalidWishes, wrong, marked, 3, TWIN, wrong)
        for kind in range(3):
            self.assertEqual(marked(3, TWIN, [(1, 4, kind)]), TWIN[:4] + [[1, kind, 1, 0]])
            self.assertEqual(marked(3, [[], [0]], [(0, 1, kind)]), [[], [kind]])
        wrong = []
        helper.refusal(self, InvalidWishes, wrong, marked, 3, [[], [0]], wrong)
        self.assertEqual(marked(3, [[]], []), [[]])
        wrong = [(0, 1, 1)]
        helper.refusal(self, InvalidWishes, wrong, marked, 3, [[]], wrong)
        helper.refusal(self, InvalidWishes, wrong, marked, 2, ROW, wrong)


class LimitsTest(unittest.TestCase):
    def test_large_companies_with_told_knots(self):
        rng = Random(17)
        for kinds in range(2, 10):
            grower = helper.Grower(kinds, rng)
            for _ in range(4):
                company, tree = grower.shuffled(*grower.grown(grower.tree(40)))
                groups = let_down(40, tree)[1]
                self.assertEqual(groups_of(kinds, company), groups)
                marks = marks_of(kinds, company)
                self.assertEqual(marked(kinds, base_of(kinds, company), marks), company)
                least = [(*people, 0) for people, base in groups if base is None]
                self.assertEqual(marked(kinds, company, least), base_of(kinds, company))

    def test_forty_people_of_one_group(self):
        same = [[4] * person for person in range(40)]
        self.assertEqual(groups_of(9, same), [(list(range(40)), 4)])
        self.assertEqual(movers(9, same), list(range(40)))
        marks = [(one, 39 - one, one % 4) for one in range(20)]
        other = marked(9, same, marks)
        self.assertEqual(marks_of(9, other), marks)
        self.assertEqual(groups_of(9, other), [(list(range(40)), 4)])
        self.assertTrue(are_joined(9, same, other))
        self.assertEqual(movers(2, helper.row_of_friends(40)), [])


if __name__ == "__main__":
    unittest.main()
