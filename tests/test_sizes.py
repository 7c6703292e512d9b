"""[33] to [35]: the sizes of groups and classes, and sizes by deeds."""

import unittest
from math import factorial
from random import Random

from tests import helper
from tests.test_letdown import small_classes
from twinties.companies import alike_couples
from twinties.errors import InvalidCompany, InvalidNumber
from twinties.groups import groups_of, marked
from twinties.letdown import base_of
from twinties.roads import farthest
from twinties.sizes import class_size, group_size, sizes_by_deeds

NONE, ALL_FRIENDS, PATH = [[], [0], [0, 0]], [[], [1], [1, 1], [1, 1, 1]], [[], [1], [0, 1], [0, 0, 1]]


def matchings(people, couples):
    return factorial(people) // (2 ** couples * factorial(couples) * factorial(people - 2 * couples))


class ExamplesTest(unittest.TestCase):
    def test_sizes(self):
        self.assertEqual(
            [group_size(2, 5), group_size(3, 3), group_size(9, 0), class_size(2, NONE), class_size(2, ALL_FRIENDS),
             class_size(2, PATH), class_size(3, [[], [2]])],
            [26, 7, 1, 4, 10, 1, 3],
        )
        self.assertEqual(
            [sizes_by_deeds(2, NONE), sizes_by_deeds(2, ALL_FRIENDS), sizes_by_deeds(3, [[], [1], [0, 0]]),
             sizes_by_deeds(2, PATH)],
            [[1, 3], [1, 6, 3], [1, 2, 4], [1]],
        )


class GroupSizeTest(unittest.TestCase):
    def test_each_number_by_the_two_ahead(self):
        self.assertEqual([group_size(2, people) for people in range(7)], [1, 1, 2, 4, 10, 26, 76])
        for kinds in range(2, 10):
            numbers = [group_size(kinds, people) for people in range(302)]
            self.assertEqual(numbers[:3], [1, 1, kinds])
            for many in range(2, 302):
                more = (many - 1) * (kinds - 1) * numbers[many - 2]
                self.assertEqual(numbers[many], numbers[many - 1] + more)

    def test_by_couples_without_a_common_person(self):
        for kinds in (2, 3, 9):
            for people in (0, 1, 2, 3, 12, 40):
                ways = [matchings(people, many) * (kinds - 1) ** many for many in range(people // 2 + 1)]
                self.assertEqual(group_size(kinds, people), sum(ways))

    def test_by_rows_of_deeds(self):
        for kinds, people in ((2, 3), (2, 4), (2, 5), (2, 6), (3, 3), (3, 4), (9, 3)):
            web = helper.Web(kinds, [[1] * person for person in range(people)])
            self.assertEqual(group_size(kinds, people), len(web.members))

    def test_what_is_no_count_is_told_behind_the_kinds(self):
        for wrong in (None, True, False, -1, -2, -helper.THIRTY_FIGURES, "3", "", (), (3,), [], [3], {}):
            helper.refusal(self, InvalidNumber, wrong, group_size, 2, wrong)
            for kinds in helper.WRONG_KINDS:
                helper.refusal(self, InvalidNumber, kinds, group_size, kinds, wrong)


class ClassSizeTest(unittest.TestCase):
    def test_by_rows_of_deeds(self):
        for kinds, members in small_classes():
            for company in members:
                self.assertEqual(class_size(kinds, company), len(members))
        for web in helper.webs():
            for company in web.members[:5]:
                self.assertEqual(class_size(web.kinds, company), len(web.members))

    def test_alone_are_those_without_two_who_stand_alike(self):
        for kinds, members in small_classes():
            for company in members:
                self.assertIs(class_size(kinds, company) == 1, alike_couples(kinds, company) == [])

    def test_one_person_and_a_loose_pair(self):
        self.assertEqual([class_size(kinds, [[]]) for kinds in range(2, 10)], [1] * 8)
        self.assertEqual([class_size(kinds, [[], [1]]) for kinds in range(2, 10)], list(range(2, 10)))
        self.assertEqual([sizes_by_deeds(2, [[]]), sizes_by_deeds(9, [[], [8]])], [[1], [1, 8]])

    def test_errors(self):
        for function in (class_size, sizes_by_deeds):
            for wrong in helper.WRONG_COMPANIES:
                helper.refusal(self, InvalidCompany, wrong, function, 2, wrong)
                helper.refusal(self, InvalidNumber, None, function, None, wrong)


class SizesByDeedsTest(unittest.TestCase):
    def test_by_rows_of_deeds(self):
        for web in helper.webs():
            for place, company in enumerate(web.members):
                counted = [web.far[place].count(many) for many in range(max(web.far[place]) + 1)]
                self.assertEqual(sizes_by_deeds(web.kinds, company), counted)

    def test_small_classes(self):
        for kinds, members in small_classes():
            web = helper.Web(kinds, members[0])
            for place, company in enumerate(web.members):
                counted = [web.far[place].count(many) for many in range(max(web.far[place]) + 1)]
                self.assertEqual(sizes_by_deeds(kinds, company), counted)

    def test_larger_groups_with_few_and_with_many_marks(self):
        for kinds, people, marks in ((3, 5, 0), (3, 5, 1), (3, 5, 2), (4, 4, 2), (2, 7, 0), (2, 7, 3)):
            company = [[0] * person for person in range(people)]
            company = marked(kinds, company, [(2 * at, 2 * at + 1, kinds - 1) for at in range(marks)])
            web = helper.Web(kinds, company) if group_size(kinds, people) < 400 else None
            if web is not None:
                far = web.far[web.members.index(company)]
                self.assertEqual(sizes_by_deeds(kinds, company), [far.count(many) for many in range(max(far) + 1)])

    def test_forty_people(self):
        rng = Random(35)
        for kinds in range(2, 10):
            grower = helper.Grower(kinds, rng)
            company, _ = grower.shuffled(*grower.grown(grower.tree(40)))
            same = [[1] * person for person in range(40)]
            pairs = marked(kinds, same, [(at, 39 - at, 0) for at in range(20)])
            for one in (company, base_of(kinds, company), same, pairs, helper.layered([13, 14, 13])):
                sizes = sizes_by_deeds(kinds, one)
                self.assertEqual(sum(sizes), class_size(kinds, one))
                self.assertEqual([sizes[0], len(sizes) - 1], [1, farthest(kinds, one)])
                self.assertTrue(all(many > 0 for many in sizes))
            self.assertEqual(
                sizes_by_deeds(kinds, same), [matchings(40, many) * (kinds - 1) ** many for many in range(21)],
            )

    def test_the_product_over_the_groups(self):
        company = helper.layered([3, 4, 2])
        whole = [1]
        self.assertEqual([len(people) for people, _ in groups_of(2, company)], [3, 4, 2])
        for sizes in ([1, 3], [1, 6, 3], [1, 1]):
            longer = [0] * (len(whole) + len(sizes) - 1)
            for at, one in enumerate(whole):
                for more, other in enumerate(sizes):
                    longer[at + more] += one * other
            whole = longer
        self.assertEqual(sizes_by_deeds(2, company), whole)


if __name__ == "__main__":
    unittest.main()
