"""[42] to [44]: how many ties of a kind the companies of a class have."""

import unittest
from random import Random

from tests import helper
from tests.test_letdown import small_classes
from tests.test_roads import member_by_chance
from twinties.errors import InvalidCompany, InvalidNumber, InvalidPerson
from twinties.groups import groups_of
from twinties.sizes import class_size
from twinties.tallies import how_many_with, person_bounds, sure_friends, tallies, tie_bounds

PATH, FIVE = [[], [1], [0, 1]], [[], [1], [1, 1], [1, 1, 1], [0, 0, 0, 0]]


def some_classes():
    yield from small_classes()
    for web in helper.webs():
        yield web.kinds, web.members


def ties_of_kind(company, kind):
    return sum(row.count(kind) for row in company)


def friends(company, person, kind):
    return [
        other for other in range(len(company)) if other != person and helper.tie_in(company, person, other) == kind
    ]


class ExamplesTest(unittest.TestCase):
    def test_tallies(self):
        self.assertEqual(
            [tie_bounds(2, PATH, 1), tie_bounds(2, FIVE, 1), tie_bounds(2, FIVE, 0), how_many_with(2, PATH, 1, 2),
             tallies(2, FIVE, 1), tallies(3, PATH, 2)],
            [(2, 3), (4, 6), (4, 6), 3, [3, 6, 1], [4, 3]],
        )
        self.assertEqual(
            [person_bounds(2, PATH, 0, 1), person_bounds(2, FIVE, 4, 0), person_bounds(2, FIVE, 0, 0),
             sure_friends(2, FIVE, 4, 0), sure_friends(2, FIVE, 0, 1)],
            [(1, 2), (4, 4), (1, 2), [0, 1, 2, 3], []],
        )


class TiesTest(unittest.TestCase):
    def test_bounds_and_tallies_of_a_class(self):
        for kinds, members in some_classes():
            for kind in range(kinds):
                counts = [ties_of_kind(company, kind) for company in members]
                least, most = min(counts), max(counts)
                for company in members[:2] + members[-1:]:
                    self.assertEqual(tie_bounds(kinds, company, kind), (least, most))
                    found = [counts.count(number) for number in range(least, most + 1)]
                    self.assertEqual(tallies(kinds, company, kind), found)
                    # Every number between the two comes.
                    self.assertNotIn(0, found)
                    for number in range(most + 3):
                        self.assertEqual(how_many_with(kinds, company, kind, number), counts.count(number))

    def test_numbers_that_no_company_has(self):
        for number in (0, 1, 4, 5, 100, helper.THIRTY_FIGURES):
            self.assertEqual(how_many_with(2, PATH, 1, number), 0)
        self.assertEqual([how_many_with(9, [[]], 4, number) for number in range(3)], [1, 0, 0])
        self.assertEqual([tie_bounds(9, [[]], 4), tallies(9, [[]], 4)], [(0, 0), [1]])
        self.assertEqual([tie_bounds(9, [[], [2]], 4), tallies(9, [[], [2]], 4)], [(0, 1), [8, 1]])

    def test_errors(self):
        for function in (tie_bounds, tallies):
            for wrong in (None, True, False, -1, 2, 9, helper.THIRTY_FIGURES, "1", "", (), (1,), [], [1], {}):
                helper.refusal(self, InvalidNumber, wrong, function, 2, FIVE, wrong)
                helper.refusal(self, InvalidCompany, None, function, 2, None, wrong)
                helper.refusal(self, InvalidNumber, (), function, (), None, wrong)
        for wrong in (None, True, False, -1, -helper.THIRTY_FIGURES, "1", "", (), (1,), [], [1], {}):
            helper.refusal(self, InvalidNumber, wrong, how_many_with, 2, FIVE, 1, wrong)
            helper.refusal(self, InvalidNumber, 2, how_many_with, 2, FIVE, 2, wrong)
            helper.refusal(self, InvalidNumber, wrong, how_many_with, 2, FIVE, wrong, -1)
            helper.refusal(self, InvalidCompany, None, how_many_with, 2, None, wrong, wrong)


class PersonTest(unittest.TestCase):
    def test_bounds_and_sure_friends_of_a_person(self):
        for kinds, members in some_classes():
            company = members[-1]
            moving = [person for people, _ in groups_of(kinds, company) for person in people]
            for person in range(len(company)):
                for kind in range(kinds):
                    told = [friends(one, person, kind) for one in members]
                    least, most = min(len(row) for row in told), max(len(row) for row in told)
                    self.assertEqual(person_bounds(kinds, company, person, kind), (least, most))
                    self.assertEqual(most - least, 1 if person in moving else 0)
                    sure = [other for other in told[0] if all(other in row for row in told)]
                    self.assertEqual(sure_friends(kinds, company, person, kind), sure)
                    self.assertEqual(sure_friends(kinds, members[0], person, kind), sure)

    def test_one_person_and_two(self):
        self.assertEqual([person_bounds(9, [[]], 0, 3), sure_friends(9, [[]], 0, 3)], [(0, 0), []])
        self.assertEqual([person_bounds(9, [[], [3]], 1, 3), sure_friends(9, [[], [3]], 1, 3)], [(0, 1), []])

    def test_errors(self):
        for function in (person_bounds, sure_friends):
            for wrong in (None, True, False, -1, 5, helper.THIRTY_FIGURES, "1", "", (), (1,), [], [1], {}):
                helper.refusal(self, InvalidPerson, wrong, function, 2, FIVE, wrong, 1)
                helper.refusal(self, InvalidPerson, wrong, function, 2, FIVE, wrong, None)
                helper.refusal(self, InvalidCompany, None, function, 2, None, wrong, wrong)
                helper.refusal(self, InvalidNumber, (), function, (), None, wrong, wrong)
            for wrong in (None, True, False, -1, 2, 9, helper.THIRTY_FIGURES, "1", "", (), (1,), [], [1], {}):
                helper.refusal(self, InvalidNumber, wrong, function, 2, FIVE, 4, wrong)


class LimitsTest(unittest.TestCase):
    def test_forty_people(self):
        rng = Random(44)
        for kinds in range(2, 10):
            grower = helper.Grower(kinds, rng)
            company, _ = grower.shuffled(*grower.grown(grower.tree(40)))
            same = [[kinds - 1] * person for person in range(40)]
            for start in (company, same, helper.layered([13, 14, 13])):
                one = member_by_chance(rng, kinds, start)
                size, ties_of_all = class_size(kinds, one), 0
                for kind in range(kinds):
                    least, most = tie_bounds(kinds, one, kind)
                    found = tallies(kinds, one, kind)
                    self.assertTrue(least <= ties_of_kind(one, kind) <= most)
                    self.assertEqual([sum(found), len(found)], [size, most - least + 1])
                    self.assertNotIn(0, found)
                    for number in {least, (least + most) // 2, most}:
                        self.assertEqual(how_many_with(kinds, one, kind, number), found[number - least])
                    for number in {max(least - 1, 0), most + 1} - {least}:
                        self.assertEqual(how_many_with(kinds, one, kind, number), 0)
                    # Each company has 780 ties, of any kind.
                    ties_of_all += sum((least + at) * many for at, many in enumerate(found))
                    self.check_persons(kinds, one, kind)
                self.assertEqual(ties_of_all, 780 * size)

    def check_persons(self, kinds, company, kind):
        for person in (0, 17, 39):
            least, most = person_bounds(kinds, company, person, kind)
            now = friends(company, person, kind)
            sure = sure_friends(kinds, company, person, kind)
            self.assertTrue(least <= len(now) <= most)
            self.assertTrue(set(sure) <= set(now))


if __name__ == "__main__":
    unittest.main()
