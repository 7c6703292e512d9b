"""[39] to [41]: sure and free ties."""

import unittest
from itertools import combinations
from random import Random

from tests import helper
from tests.test_letdown import small_classes
from tests.test_roads import member_by_chance
from twinties.companies import among, tie
from twinties.errors import InvalidCompany, InvalidCouple, InvalidNumber
from twinties.groups import groups_of
from twinties.ties import free_couples, is_free, kinds_of, kinds_together, sure_four

PATH, LINE = [[], [1], [0, 1]], [[], [1], [0, 1], [0, 0, 1]]
FIVE = [[], [1], [1, 1], [1, 1, 1], [0, 0, 0, 0]]


def some_classes():
    yield from small_classes()
    for web in helper.webs():
        yield web.kinds, web.members


def kinds_in(members, couple):
    return sorted({company[couple[1]][couple[0]] for company in members})


def is_sure_by_deeds(kinds, company, lot, couple):
    """Whether the tie is the same in all that rows of deeds make of the company among a lot."""
    places = (lot.index(couple[0]), lot.index(couple[1]))
    return len(kinds_in(helper.Web(kinds, among(kinds, company, lot)).members, places)) == 1


class ExamplesTest(unittest.TestCase):
    def test_ties(self):
        self.assertEqual(
            [is_free(2, PATH, (0, 1)), is_free(2, LINE, (0, 1)), kinds_of(3, PATH, (0, 2)), kinds_of(2, LINE, (0, 2)),
             free_couples(2, LINE), free_couples(2, PATH)],
            [True, False, [0, 1, 2], [0], [], [(0, 1), (0, 2), (1, 2)]],
        )
        self.assertEqual(
            [sure_four(2, LINE, (0, 1)), sure_four(2, PATH, (0, 1)), sure_four(2, FIVE, (0, 4)),
             sure_four(3, [[], [0], [1, 2]], (1, 2))],
            [[0, 1, 2, 3], None, [0, 1, 2, 4], [0, 1, 2]],
        )
        self.assertEqual(
            [kinds_together(2, PATH, (0, 1), (0, 2)), kinds_together(2, FIVE, (0, 1), (2, 3)),
             kinds_together(2, LINE, (0, 1), (2, 3))],
            [[(0, 1), (1, 0), (1, 1)], [(0, 0), (0, 1), (1, 0), (1, 1)], [(1, 1)]],
        )


class FreeTest(unittest.TestCase):
    def test_free_ties_and_the_kinds_that_come(self):
        for kinds, members in some_classes():
            couples = helper.couples_of(len(members[0]))
            free = [couple for couple in couples if len(kinds_in(members, couple)) > 1]
            for company in members[:3] + members[-1:]:
                self.assertEqual(free_couples(kinds, company), free)
                for couple in couples:
                    self.assertIs(is_free(kinds, company, couple), couple in free)
                    self.assertEqual(kinds_of(kinds, company, couple), kinds_in(members, couple))

    def test_free_ties_stand_within_groups_and_all_kinds_come(self):
        for kinds, members in some_classes():
            company = members[-1]
            for couple in helper.couples_of(len(company)):
                within = any(set(couple) <= set(people) for people, _ in groups_of(kinds, company))
                self.assertIs(is_free(kinds, company, couple), within)
                sure = [tie(kinds, company, couple)]
                self.assertEqual(kinds_of(kinds, company, couple), list(range(kinds)) if within else sure)

    def test_one_person_and_a_loose_pair(self):
        self.assertEqual([free_couples(9, [[]]), free_couples(9, [[], [3]])], [[], [(0, 1)]])
        self.assertEqual([is_free(9, [[], [3]], (0, 1)), kinds_of(9, [[], [3]], (0, 1))], [True, list(range(9))])
        self.assertIsNone(sure_four(9, [[], [3]], (0, 1)))
        twin = [[], [1], [0, 1], [0, 0, 1], [1, 2, 1, 0]]
        self.assertEqual([free_couples(3, twin), kinds_of(3, twin, (1, 4))], [[(1, 4)], [0, 1, 2]])

    def test_errors(self):
        for function in (is_free, kinds_of, sure_four):
            for wrong in helper.WRONG_COUPLES:
                helper.refusal(self, InvalidCouple, wrong, function, 2, FIVE, wrong)
                helper.refusal(self, InvalidCompany, None, function, 2, None, wrong)
                helper.refusal(self, InvalidNumber, 1, function, 1, None, wrong)
            wrong = (0, 1)
            helper.refusal(self, InvalidCouple, wrong, function, 2, [[]], wrong)
        for wrong in helper.WRONG_COMPANIES:
            helper.refusal(self, InvalidCompany, wrong, free_couples, 2, wrong)
            helper.refusal(self, InvalidNumber, True, free_couples, True, wrong)


class FourTest(unittest.TestCase):
    def check_couples(self, kinds, company, members):
        for couple in helper.couples_of(len(company)):
            many = min(4, len(company))
            lots = [lot for lot in helper.lots_of(len(company), many) if set(couple) <= set(lot)]
            sure = [lot for lot in lots if is_sure_by_deeds(kinds, company, lot, couple)]
            self.assertIs(sure == [], len(kinds_in(members, couple)) > 1)
            self.assertEqual(sure_four(kinds, company, couple), sure[0] if sure else None)

    def test_the_first_four_among_whom_a_tie_is_sure(self):
        for kinds, members in small_classes():
            for company in members[:3]:
                self.check_couples(kinds, company, members)

    def test_five_people_and_six(self):
        rng = Random(40)
        for web in helper.webs():
            if 5 <= len(web.members[0]) <= 6:
                for company in rng.sample(web.members, min(3, len(web.members))):
                    self.check_couples(web.kinds, company, web.members)
        for kinds in (2, 3):
            for _ in range(6):
                grower = helper.Grower(kinds, rng)
                company, _ = grower.shuffled(*grower.grown(grower.tree(6)))
                self.check_couples(kinds, company, helper.Web(kinds, company).members)

    def test_fewer_than_four_people(self):
        three = [[], [0], [1, 2]]
        for couple in helper.couples_of(3):
            self.assertEqual(sure_four(3, three, couple), [0, 1, 2])
            self.assertIsNone(sure_four(3, PATH, couple))

    def test_three_are_not_enough(self):
        for couple in helper.couples_of(4):
            self.assertIs(is_free(2, LINE, couple), False)
            for lot in helper.lots_of(4, 3):
                if set(couple) <= set(lot):
                    self.assertIs(is_sure_by_deeds(2, LINE, lot, couple), False)


class TogetherTest(unittest.TestCase):
    def test_the_kinds_that_come_in_one_company(self):
        for kinds, members in some_classes():
            pairs = list(combinations(helper.couples_of(len(members[0])), 2))
            for couple, second in pairs if len(members) < 30 else pairs[::5]:
                found = sorted({(one[couple[1]][couple[0]], one[second[1]][second[0]]) for one in members})
                self.assertEqual(kinds_together(kinds, members[-1], couple, second), found)
                back = sorted((other, kind) for kind, other in found)
                self.assertEqual(kinds_together(kinds, members[0], second, couple), back)

    def test_two_couples_of_one_group_with_a_person_in_common(self):
        same = [[1] * person for person in range(4)]
        either = [(kind, other) for kind in range(3) for other in range(3)]
        self.assertEqual(kinds_together(3, same, (0, 1), (2, 3)), either)
        for second in ((0, 2), (1, 3), (1, 2), (0, 3)):
            told = [pair for pair in either if 1 in pair]
            self.assertEqual(kinds_together(3, same, (0, 1), second), told)

    def test_errors(self):
        for wrong in helper.WRONG_COUPLES:
            helper.refusal(self, InvalidCouple, wrong, kinds_together, 2, FIVE, wrong, (0, 1))
            helper.refusal(self, InvalidCouple, wrong, kinds_together, 2, FIVE, wrong, None)
            helper.refusal(self, InvalidCouple, wrong, kinds_together, 2, FIVE, (0, 1), wrong)
            helper.refusal(self, InvalidCompany, None, kinds_together, 2, None, wrong, wrong)
            helper.refusal(self, InvalidNumber, (), kinds_together, (), None, wrong, wrong)
        for couple in helper.couples_of(5):
            second = tuple(list(couple))
            helper.refusal(self, InvalidCouple, second, kinds_together, 2, FIVE, couple, second)


class LimitsTest(unittest.TestCase):
    def test_forty_people(self):
        rng = Random(41)
        for kinds in range(2, 10):
            grower = helper.Grower(kinds, rng)
            start, _ = grower.shuffled(*grower.grown(grower.tree(40)))
            company = member_by_chance(rng, kinds, start)
            free = {couple for people, _ in groups_of(kinds, company) for couple in combinations(people, 2)}
            self.assertEqual(free_couples(kinds, company), sorted(free))
            for couple in rng.sample(helper.couples_of(40), 12):
                four = sure_four(kinds, company, couple)
                self.assertIs(four is None, couple in free)
                self.assertIs(is_free(kinds, company, couple), couple in free)
                if four is not None:
                    self.assertTrue(set(couple) < set(four))
                    self.assertIs(is_sure_by_deeds(kinds, company, four, couple), True)

    def test_the_four_come_last(self):
        # A row of the friends 1, 0, 38 and 39; nobody else has a friend.
        company = [[0] * person for person in range(40)]
        company[1][0] = 1
        self.assertIsNone(sure_four(2, company, (0, 1)))
        company[38][0] = company[39][38] = 1
        four = sure_four(2, company, (0, 1))
        self.assertIs(is_sure_by_deeds(2, company, four, (0, 1)), True)
        for two in combinations(range(2, 40), 2):
            if [0, 1, *two] < four:
                self.assertIs(is_sure_by_deeds(2, company, [0, 1, *two], (0, 1)), False)
        self.assertEqual(free_couples(2, [[0] * person for person in range(40)]), helper.couples_of(40))


if __name__ == "__main__":
    unittest.main()
