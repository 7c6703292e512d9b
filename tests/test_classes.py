"""[36] to [38]: the companies of a class by their numbers, and how many classes there are."""

import unittest
from random import Random

from tests import helper
from tests.test_letdown import small_classes
from tests.test_roads import member_by_chance
from twinties.classes import how_many_alone, how_many_classes, is_member, member_at, member_number, members, next_member
from twinties.companies import alike_couples
from twinties.errors import InvalidCompany, InvalidNumber, TooMany
from twinties.letdown import are_joined, base_of
from twinties.sizes import class_size, group_size

NONE = [[], [0], [0, 0]]


def some_classes():
    """Classes as rows of deeds tell them, each in order."""
    yield from small_classes()
    for web in helper.webs():
        yield web.kinds, web.members


class ExamplesTest(unittest.TestCase):
    def test_members(self):
        self.assertEqual(
            [members(2, NONE), member_at(2, NONE, 3), member_number(2, [[], [0], [1, 0]]),
             next_member(2, [[], [1], [0, 0]])],
            [[[[], [0], [0, 0]], [[], [0], [0, 1]], [[], [0], [1, 0]], [[], [1], [0, 0]]], [[], [1], [0, 0]], 2, None],
        )
        self.assertEqual(
            [is_member(2, NONE, [[], [0], [1, 1]]), is_member(2, NONE, [[], [1], [0, 0]]), how_many_classes(2, 4),
             how_many_classes(3, 3), how_many_alone(2, 5), how_many_alone(3, 3)],
            [False, True, 22, 9, 312, 6],
        )


class MembersTest(unittest.TestCase):
    def test_the_class_is_what_rows_of_deeds_reach(self):
        for kinds, row in some_classes():
            for company in row[:4] + row[-1:]:
                self.assertEqual(members(kinds, company), row)

    def test_members_by_their_numbers(self):
        for kinds, row in some_classes():
            for number, company in enumerate(row):
                self.assertEqual(member_at(kinds, row[number // 2], number), company)
                self.assertEqual(member_number(kinds, company), number)
                self.assertEqual(next_member(kinds, company), row[number + 1] if number + 1 < len(row) else None)

    def test_who_is_a_member(self):
        for kinds, row in small_classes():
            for company in helper.companies_of(kinds, len(row[0])):
                self.assertIs(is_member(kinds, row[0], company), company in row)
        for value in ([[]], [[], [0]], [[], [0], [0, 2]], [[], [0], [0, 0], [0, 0, 0]], ([], [0], [0, 0]), None):
            self.assertIs(is_member(2, NONE, value), False)

    def test_alone_in_the_class_and_one_person(self):
        for kinds, company in ((2, [[]]), (9, [[]]), (2, helper.row_of_friends(5)), (3, [[], [0], [1, 2]])):
            self.assertEqual(members(kinds, company), [company])
            self.assertEqual([member_at(kinds, company, 0), member_number(kinds, company)], [company, 0])
            self.assertIsNone(next_member(kinds, company))
            self.assertIs(is_member(kinds, company, company), True)
            wrong = 1
            helper.refusal(self, InvalidNumber, wrong, member_at, kinds, company, wrong)

    def test_a_loose_pair(self):
        row = [[[], [kind]] for kind in range(9)]
        self.assertEqual(members(9, [[], [4]]), row)
        self.assertEqual([member_number(9, company) for company in row], list(range(9)))
        self.assertEqual([member_at(9, [[], [4]], number) for number in range(9)], row)
        self.assertEqual([next_member(9, company) for company in row], row[1:] + [None])

    def test_members_are_lists_of_their_own(self):
        row = members(2, NONE)
        row[0][2][0] = "changed"
        self.assertEqual(row[1], [[], [0], [0, 1]])
        self.assertEqual(members(2, NONE)[0], NONE)

    def test_a_thousand_members_are_listed_and_no_more(self):
        thousand = helper.layered([4, 4, 4])
        row = members(2, thousand)
        self.assertEqual([len(row), class_size(2, thousand)], [1000, 1000])
        self.assertEqual(row, sorted(row))
        self.assertEqual([member_number(2, company) for company in row], list(range(1000)))
        self.assertTrue(all(are_joined(2, thousand, company) for company in row[::97]))
        # No class has 1,001 to 1,014 members: no product of group sizes lies there.
        for kinds, more, size in (
            (7, helper.layered([4, 2], 7), 1015), (2, helper.layered([3] * 5), 1024),
            (2, helper.layered([7, 5]), 232 * 26), (9, [[8] * person for person in range(40)], group_size(9, 40)),
        ):
            with self.assertRaises(TooMany) as caught:
                members(kinds, more)
            self.assertEqual(caught.exception.value, size)
            helper.refusal(self, InvalidNumber, 1, members, 1, more)
            wrong = more + [[kinds] * len(more)]
            helper.refusal(self, InvalidCompany, wrong, members, kinds, wrong)
            self.assertIs(is_member(kinds, more, more), True)

    def test_wrong_numbers_are_told(self):
        for wrong in (None, True, False, -1, 4, 5, helper.THIRTY_FIGURES, "0", "", (), (0,), [], [0], {}):
            helper.refusal(self, InvalidNumber, wrong, member_at, 2, NONE, wrong)
            helper.refusal(self, InvalidCompany, None, member_at, 2, None, wrong)
            helper.refusal(self, InvalidNumber, (), member_at, (), None, wrong)


class LimitsTest(unittest.TestCase):
    def check_class(self, rng, kinds, company):
        size = class_size(kinds, company)
        self.assertEqual(member_at(kinds, company, member_number(kinds, company)), company)
        first, last = member_at(kinds, company, 0), member_at(kinds, company, size - 1)
        self.assertIsNone(next_member(kinds, last))
        self.assertEqual([member_number(kinds, first), member_number(kinds, last)], [0, size - 1])
        wrong = size
        helper.refusal(self, InvalidNumber, wrong, member_at, kinds, company, wrong)
        for number in (rng.randrange(size), rng.randrange(size)):
            one = member_at(kinds, company, number)
            self.assertIs(is_member(kinds, company, one), True)
            self.assertEqual(member_number(kinds, one), number)
            self.assertTrue(first <= one <= last)
            if number + 1 < size:
                self.assertEqual(next_member(kinds, one), member_at(kinds, company, number + 1))
                self.assertLess(one, next_member(kinds, one))

    def test_forty_people(self):
        rng = Random(37)
        for kinds in range(2, 10):
            grower = helper.Grower(kinds, rng)
            for _ in range(3):
                company, _ = grower.shuffled(*grower.grown(grower.tree(40)))
                self.check_class(rng, kinds, member_by_chance(rng, kinds, company))
            self.check_class(rng, kinds, member_by_chance(rng, kinds, [[kinds - 1] * person for person in range(40)]))
            self.check_class(rng, kinds, helper.layered([2, 13, 11, 14]))


class HowManyTest(unittest.TestCase):
    def test_two_kinds(self):
        self.assertEqual([how_many_classes(2, people) for people in range(1, 7)], [1, 1, 2, 22, 504, 20168])
        self.assertEqual([how_many_alone(2, people) for people in range(1, 7)], [1, 0, 0, 12, 312, 13824])

    def test_by_rows_of_deeds(self):
        for kinds, people in ((2, 1), (2, 2), (2, 3), (2, 4), (3, 1), (3, 2), (3, 3), (9, 1), (9, 2), (4, 3)):
            classes = helper.classes_by_deeds(kinds, people)
            self.assertEqual(how_many_classes(kinds, people), len(classes))
            self.assertEqual(how_many_alone(kinds, people), sum(len(row) == 1 for row in classes))

    def test_by_bases(self):
        for kinds, people in ((2, 5), (3, 4), (9, 3), (2, 6)):
            bases, alone = set(), 0
            for company in helper.companies_of(kinds, people):
                bases.add(str(base_of(kinds, company)))
                alone += alike_couples(kinds, company) == []
            self.assertEqual(how_many_classes(kinds, people), len(bases))
            self.assertEqual(how_many_alone(kinds, people), alone)

    def test_forty_people(self):
        for kinds in (2, 3, 9):
            for people in (39, 40):
                classes, alone = how_many_classes(kinds, people), how_many_alone(kinds, people)
                companies = kinds ** (people * (people - 1) // 2)
                self.assertTrue(0 < alone < classes < companies)
                # A class that is not one company alone has two at least.
                self.assertGreaterEqual(companies, alone + 2 * (classes - alone))

    def test_wrong_numbers_of_people_are_told_behind_the_kinds(self):
        for function in (how_many_classes, how_many_alone):
            for wrong in (None, True, False, 0, -1, 41, 100, helper.THIRTY_FIGURES, "3", "", (), (3,), [], [3], {}):
                helper.refusal(self, InvalidNumber, wrong, function, 2, wrong)
                for kinds in helper.WRONG_KINDS:
                    helper.refusal(self, InvalidNumber, kinds, function, kinds, wrong)


if __name__ == "__main__":
    unittest.main()
