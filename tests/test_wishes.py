"""[51] to [56]: wishes for ties."""

import unittest
from functools import lru_cache
from itertools import combinations
from random import Random

from tests import helper
from tests.test_letdown import small_classes
from tests.test_roads import member_by_chance
from twinties.companies import among, differing
from twinties.errors import InvalidCompany, InvalidNumber, InvalidWishes
from twinties.groups import groups_of, marks_of
from twinties.letdown import are_joined
from twinties.roads import distance, is_between
from twinties.wishes import can_meet, first_meeting, how_many_meet, is_meeting, is_refusing, nearest, quarrel
from twinties.wishes import refusing_four, sure_under

FIVE = [[], [1], [1, 1], [0, 0, 0], [0, 0, 0, 1]]
ROW = [[], [1], [0, 1], [0, 0, 1]]
SIX = [[1] * person for person in range(6)]

# For five people and two kinds.
WRONG_WISHES = [
    None, True, 0, "", (), ((0, 1, 0),), {}, (0, 1, 0), [0], [None], [[]], [[0, 1, 0]], [(0, 1)], [(0, 1, 0, 0)],
    [(0, 1, 2)], [(0, 1, -1)], [(0, 1, False)], [(0, 1, None)], [(0, 1, "0")], [(0, 1, [0])], [(1, 0, 0)], [(0, 0, 0)],
    [(0, 5, 0)], [(-1, 1, 0)], [(False, 1, 0)], [(0, True, 0)], [("0", 1, 0)], [((0, 1), 0)], [(0, 1, 0), (0, 1, 0)],
    [(0, 1, 0), (0, 1, 1)], [(0, 2, 0), (0, 1, 0)], [(1, 2, 0), (0, 3, 0)], [(0, 1, 0), None], [(0, 1, 0), [0, 2, 0]],
    [(0, 1, helper.THIRTY_FIGURES)], [(0, helper.THIRTY_FIGURES, 0)],
]
# For FIVE: the ties of unlike groups are as they are, and nobody has two marks.
UNMET = [
    [(0, 3, 1)], [(0, 1, 0), (0, 2, 0)], [(0, 1, 0), (1, 2, 0)], [(0, 2, 0), (1, 2, 0)], [(0, 1, 1), (2, 4, 1)],
    [(0, 1, 0), (0, 2, 0), (1, 2, 0), (3, 4, 0)],
]
PLAIN = [can_meet, refusing_four, sure_under, nearest, how_many_meet, first_meeting]


def meets(company, wishes):
    return all(company[high][low] == kind for low, high, kind in wishes)


def meeting(members, wishes):
    return [company for company in members if meets(company, wishes)]


def wishes_by_chance(rng, kinds, members, many):
    """Wishes that are met by a member, or by hardly any."""
    couples = helper.couples_of(len(members[0]))
    told = sorted(rng.sample(couples, min(many, len(couples))))
    member = rng.choice(members)
    wild = rng.random() < 0.3
    return [(low, high, rng.randrange(kinds) if wild else member[high][low]) for low, high in told]


def some_wishes(seed, tries, most=200):
    """Classes with a company of each and wishes: none, one for each couple, and others."""
    rng = Random(seed)
    for kinds, members in some_classes(most):
        for _ in range(tries):
            many = rng.choice((0, 1, 1, 2, 2, 3, 4, 6, 15))
            yield kinds, members, rng.choice(members), wishes_by_chance(rng, kinds, members, many)


def some_classes(most=200):
    yield from small_classes()
    for web in helper.webs():
        if len(web.members) <= most:
            yield web.kinds, web.members


@lru_cache(None)
def class_of(kinds, text):
    """The class of a small company, as rows of deeds make it."""
    found = {text: [list(row) for row in eval(text)]}
    waiting = list(found.values())
    while waiting:
        company = waiting.pop()
        for one, other in helper.couples_of(len(company)):
            if helper.alike_by_definition(company, one, other):
                for kind in range(kinds):
                    behind = [list(row) for row in company]
                    behind[other][one] = kind
                    if repr(behind) not in found:
                        found[repr(behind)] = behind
                        waiting.append(behind)
    return list(found.values())


def wishes_among(wishes, lot):
    return [(lot.index(low), lot.index(high), kind) for low, high, kind in wishes if low in lot and high in lot]


def refuses(kinds, company, wishes, lot):
    """Whether no company that rows of deeds make of the one among a lot meets the wishes of its couples."""
    return not meeting(class_of(kinds, repr(among(kinds, company, lot))), wishes_among(wishes, lot))


def sure_in(members, wishes):
    met = meeting(members, wishes)
    couples = helper.couples_of(len(members[0]))
    return [
        (low, high, met[0][high][low]) for low, high in couples if len({company[high][low] for company in met}) == 1
    ]


class ExamplesTest(unittest.TestCase):
    def test_meeting(self):
        self.assertEqual(
            [can_meet(2, FIVE, [(0, 1, 0)]), can_meet(2, FIVE, [(0, 1, 0), (1, 2, 0)]), can_meet(2, FIVE, [(0, 3, 1)]),
             can_meet(2, FIVE, [])],
            [True, False, False, True],
        )
        self.assertEqual(
            [refusing_four(2, FIVE, [(0, 1, 0), (1, 2, 0)]), refusing_four(2, FIVE, [(3, 4, 0)]),
             is_refusing(2, FIVE, [(0, 3, 1)], [0, 1, 2, 3]), is_refusing(2, FIVE, [(0, 3, 1)], [0, 1, 3])],
            [[0, 1, 2, 3], None, True, False],
        )

    def test_sure_ties(self):
        self.assertEqual(
            sure_under(2, FIVE, [(0, 1, 0)]),
            [(0, 1, 0), (0, 2, 1), (0, 3, 0), (0, 4, 0), (1, 2, 1), (1, 3, 0), (1, 4, 0), (2, 3, 0), (2, 4, 0)],
        )

    def test_what_meets_them(self):
        self.assertEqual(
            [nearest(2, FIVE, [(0, 1, 0), (3, 4, 0)]), nearest(2, [[], [0], [1, 1]], [(0, 2, 0)]), nearest(2, FIVE, [])],
            [(2, [[], [0], [1, 1], [0, 0, 0], [0, 0, 0, 0]]), (2, [[], [1], [0, 1]]),
             (0, [[], [1], [1, 1], [0, 0, 0], [0, 0, 0, 1]])],
        )
        self.assertEqual(
            [how_many_meet(2, FIVE, []), how_many_meet(2, FIVE, [(0, 1, 0)]), how_many_meet(2, FIVE, [(0, 1, 1)]),
             how_many_meet(3, [[], [0]], []), how_many_meet(2, FIVE, [(0, 3, 1)])],
            [8, 2, 6, 3, 0],
        )
        self.assertEqual(
            [first_meeting(2, FIVE, []), first_meeting(2, FIVE, [(0, 1, 1), (3, 4, 1)]),
             is_meeting(2, FIVE, [(0, 1, 0)], [[], [0], [1, 1], [0, 0, 0], [0, 0, 0, 1]])],
            [[[], [0], [1, 1], [0, 0, 0], [0, 0, 0, 0]], [[], [1], [0, 1], [0, 0, 0], [0, 0, 0, 1]], True],
        )

    def test_two_parties(self):
        self.assertEqual(
            [quarrel(2, FIVE, [(0, 1, 0)], [(1, 2, 0)]), quarrel(2, FIVE, [(0, 1, 0)], [(0, 1, 0), (3, 4, 1)]),
             quarrel(3, [[], [0]], [(0, 1, 1)], [(0, 1, 2)])],
            [((0, 1, 0), (1, 2, 0)), None, ((0, 1, 1), (0, 1, 2))],
        )


class MeetTest(unittest.TestCase):
    def test_wishes_can_be_met_if_a_member_meets_them(self):
        seen = {True: 0, False: 0}
        for kinds, members, company, wishes in some_wishes(51, 60):
            told = bool(meeting(members, wishes))
            seen[told] += 1
            self.assertIs(can_meet(kinds, company, wishes), told)
        self.assertGreater(min(seen.values()), 300)

    def test_the_ties_and_the_marks_of_groups_tell_it(self):
        for kinds, members, company, wishes in some_wishes(511, 20):
            groups = groups_of(kinds, company)
            within = [
                [wish for wish in wishes if wish[0] in people and wish[1] in people] for people, _ in groups
            ]
            sure = [wish for wish in wishes if not any(wish in told for told in within)]
            turned = [
                person for (_, base), told in zip(groups, within) if base is not None
                for low, high, kind in told if kind != base for person in (low, high)
            ]
            told = meets(company, sure) and len(set(turned)) == len(turned)
            self.assertIs(can_meet(kinds, company, wishes), told)

    def test_the_first_four_among_whom_they_cannot(self):
        found = 0
        for kinds, members, company, wishes in some_wishes(52, 25):
            many = min(4, len(company))
            lots = [lot for lot in helper.lots_of(len(company), many) if refuses(kinds, company, wishes, lot)]
            self.assertEqual(refusing_four(kinds, company, wishes), lots[0] if lots else None)
            self.assertIs(lots == [], bool(meeting(members, wishes)))
            found += lots != []
        self.assertGreater(found, 200)

    def test_lots_of_any_size_that_refuse(self):
        for kinds, members, company, wishes in some_wishes(53, 5, 80):
            for lot in helper.lots_of(len(company)):
                self.assertIs(is_refusing(kinds, company, wishes, lot), refuses(kinds, company, wishes, lot))

    def test_three_are_not_enough(self):
        # All ties of a row of friends are sure, but among no three of them.
        self.assertEqual(refusing_four(2, ROW, [(0, 1, 0)]), [0, 1, 2, 3])
        for lot in helper.lots_of(4, 3):
            self.assertIs(is_refusing(2, ROW, [(0, 1, 0)], lot), False)

    def test_fewer_than_four_people(self):
        three = [[], [0], [1, 2]]
        self.assertEqual(refusing_four(3, three, [(0, 1, 1)]), [0, 1, 2])
        self.assertIsNone(refusing_four(3, three, [(0, 1, 0), (1, 2, 2)]))
        self.assertEqual(refusing_four(2, SIX[:3], [(0, 1, 0), (0, 2, 0)]), [0, 1, 2])
        self.assertIsNone(refusing_four(2, [[], [1]], [(0, 1, 0)]))
        self.assertIsNone(refusing_four(2, [[]], []))

    def test_what_is_no_lot_refuses_nothing(self):
        for value in helper.WRONG_LOTS + helper.ANYTHING:
            self.assertIs(is_refusing(2, FIVE, [(0, 3, 1)], value), False)


class SureTest(unittest.TestCase):
    def test_sure_ties_are_those_of_all_that_meet_the_wishes(self):
        for kinds, members, company, wishes in some_wishes(54, 20):
            if meeting(members, wishes):
                self.assertEqual(sure_under(kinds, company, wishes), sure_in(members, wishes))

    def test_four_people_tell(self):
        for kinds, members, company, wishes in some_wishes(55, 6, 80):
            if meeting(members, wishes):
                sure = sure_under(kinds, company, wishes)
                by_four = []
                for lot in helper.lots_of(len(company), min(4, len(company))):
                    told = sure_in(class_of(kinds, repr(among(kinds, company, lot))), wishes_among(wishes, lot))
                    by_four.extend((lot[low], lot[high], kind) for low, high, kind in told)
                self.assertEqual(sorted(set(by_four)), sure)

    def test_wishes_of_the_base_and_of_other_kinds(self):
        self.assertEqual(sure_under(2, SIX[:3], [(0, 1, 1)]), [(0, 1, 1)])
        self.assertEqual(sure_under(2, SIX[:3], [(0, 1, 0)]), [(0, 1, 0), (0, 2, 1), (1, 2, 1)])
        self.assertEqual(sure_under(2, SIX[:3], []), [])
        self.assertEqual(sure_under(9, [[], [3]], [(0, 1, 8)]), [(0, 1, 8)])
        self.assertEqual(sure_under(9, [[], [3]], []), [])
        self.assertEqual([sure_under(9, [[]], []), sure_under(2, ROW[:1], [])], [[], []])


class NearestTest(unittest.TestCase):
    def test_the_only_one_that_fewest_deeds_lead_to(self):
        rng = Random(56)
        for web in helper.webs():
            if len(web.members) > 130:
                continue
            for _ in range(25):
                start = rng.randrange(len(web.members))
                company = web.members[start]
                wishes = wishes_by_chance(rng, web.kinds, web.members, rng.choice((0, 1, 2, 3, 4)))
                met = [place for place, one in enumerate(web.members) if meets(one, wishes)]
                if met:
                    fewest = min(web.far[start][place] for place in met)
                    ends = [place for place in met if web.far[start][place] == fewest]
                    self.assertEqual(len(ends), 1)
                    self.assertEqual(nearest(web.kinds, company, wishes), (fewest, web.members[ends[0]]))

    def test_it_lies_between_the_company_and_all_that_meet_the_wishes(self):
        for kinds, members, company, wishes in some_wishes(57, 8, 80):
            met = meeting(members, wishes)
            if met:
                deeds, found = nearest(kinds, company, wishes)
                self.assertEqual(deeds, distance(kinds, company, found))
                for other in met[:20]:
                    self.assertIs(is_between(kinds, company, other, found), True)

    def test_marks_are_taken_back_for_others(self):
        company = [[], [0], [1, 1], [1, 1, 0], [1, 1, 1, 1], [1, 1, 1, 1, 0]]
        self.assertEqual(marks_of(2, company), [(0, 1, 0), (2, 3, 0), (4, 5, 0)])
        self.assertEqual(nearest(2, company, [(0, 2, 0)]),
                         (3, [[], [1], [0, 1], [1, 1, 1], [1, 1, 1, 1], [1, 1, 1, 1, 0]]))
        self.assertEqual(nearest(2, company, [(0, 2, 1)]), (0, company))
        self.assertEqual(nearest(2, company, [(0, 1, 1), (2, 3, 0)])[0], 1)
        self.assertEqual(nearest(3, company, [(0, 1, 2)])[0], 1)


class CountTest(unittest.TestCase):
    def test_how_many_meet(self):
        for kinds, members, company, wishes in some_wishes(58, 10, 800):
            self.assertEqual(how_many_meet(kinds, company, wishes), len(meeting(members, wishes)))

    def test_wishes_of_the_base_alone(self):
        rng = Random(59)
        couples = helper.couples_of(6)
        members = class_of(2, repr(SIX))
        for many in range(16):
            for _ in range(5):
                wishes = [(low, high, 1) for low, high in sorted(rng.sample(couples, many))]
                self.assertEqual(how_many_meet(2, SIX, wishes), len(meeting(members, wishes)))
        three = class_of(3, repr(SIX[:5]))
        for many in range(11):
            wishes = [(low, high, 1) for low, high in sorted(rng.sample(helper.couples_of(5), many))]
            self.assertEqual(how_many_meet(3, SIX[:5], wishes), len(meeting(three, wishes)))

    def test_loose_pairs(self):
        self.assertEqual([how_many_meet(9, [[], [4]], []), how_many_meet(9, [[], [4]], [(0, 1, 0)])], [9, 1])
        twin = [[], [1], [0, 1], [0, 0, 1], [1, 2, 1, 0]]
        self.assertEqual([how_many_meet(3, twin, []), how_many_meet(3, twin, [(1, 4, 0)]),
                          how_many_meet(3, twin, [(0, 1, 0)]), how_many_meet(3, [[]], [])], [3, 1, 0, 1])


class FirstTest(unittest.TestCase):
    def test_the_first_company_that_meets_wishes(self):
        for kinds, members, company, wishes in some_wishes(60, 10, 800):
            met = meeting(members, wishes)
            if met:
                self.assertEqual(first_meeting(kinds, company, wishes), min(met))

    def test_companies_that_meet_them(self):
        for kinds, members, company, wishes in some_wishes(61, 3):
            for value in members[:40]:
                self.assertIs(is_meeting(kinds, company, wishes, value), meets(value, wishes))

    def test_what_does_not_meet_them(self):
        for value in helper.ANYTHING + helper.WRONG_COMPANIES:
            self.assertIs(is_meeting(2, FIVE, [], value), False)
        # Not joined, of other numbers of people, of more kinds; and wishes that cannot be met.
        for value in (SIX[:5], FIVE[:4], SIX, [[], [1], [1, 1], [0, 0, 0], [0, 0, 0, 2]]):
            self.assertIs(is_meeting(2, FIVE, [], value), False)
        for wishes in UNMET:
            for value in class_of(2, repr(FIVE)) + [[[], [1], [1, 1], [1, 0, 0], [0, 0, 0, 1]]]:
                self.assertIs(is_meeting(2, FIVE, wishes, value), False)


class QuarrelTest(unittest.TestCase):
    def quarrels(self, kinds, company, wish, other):
        if wish[:2] == other[:2]:
            return wish[2] != other[2]
        common = len(set(wish[:2]) & set(other[:2]))
        return common == 1 and any(
            base is not None and set(wish[:2] + other[:2]) <= set(people) and wish[2] != base and other[2] != base
            for people, base in groups_of(kinds, company)
        )

    def test_the_first_two_wishes_that_quarrel(self):
        rng = Random(62)
        found = 0
        for kinds, members in some_classes():
            for _ in range(40):
                company = rng.choice(members)
                both = [wishes_by_chance(rng, kinds, members, rng.choice((0, 1, 2, 3, 6))) for _ in range(2)]
                if all(meeting(members, told) for told in both):
                    wishes, others = both
                    pairs = [
                        (wish, other) for wish in wishes for other in others
                        if self.quarrels(kinds, company, wish, other)
                    ]
                    self.assertEqual(quarrel(kinds, company, wishes, others), min(pairs) if pairs else None)
                    together = [one for one in members if meets(one, wishes) and meets(one, others)]
                    self.assertIs(together == [], pairs != [])
                    found += pairs != []
        self.assertGreater(found, 100)

    def test_the_first_in_order_of_both(self):
        others = [(0, 2, 0), (1, 3, 0)]
        self.assertEqual(quarrel(2, SIX, [(0, 1, 0)], others), ((0, 1, 0), (0, 2, 0)))
        self.assertEqual(quarrel(2, SIX, [(0, 3, 1), (0, 5, 0), (1, 4, 0)], others), ((0, 5, 0), (0, 2, 0)))
        self.assertEqual(quarrel(2, SIX, [(2, 3, 0)], [(0, 3, 0), (1, 2, 0)]), ((2, 3, 0), (0, 3, 0)))
        self.assertEqual(quarrel(3, SIX, [(2, 3, 0)], [(0, 2, 0), (2, 3, 1)]), ((2, 3, 0), (0, 2, 0)))
        self.assertEqual(quarrel(3, SIX, [(2, 3, 0)], [(0, 2, 1), (2, 3, 2)]), ((2, 3, 0), (2, 3, 2)))
        self.assertIsNone(quarrel(2, SIX, [(0, 1, 1), (2, 3, 0)], [(0, 2, 1), (1, 4, 0)]))
        self.assertIsNone(quarrel(2, SIX, [], []))

    def test_errors(self):
        good = [(0, 1, 0)]
        for wrong in WRONG_WISHES:
            helper.refusal(self, InvalidWishes, wrong, quarrel, 2, FIVE, wrong, good)
            helper.refusal(self, InvalidWishes, wrong, quarrel, 2, FIVE, wrong, None)
            helper.refusal(self, InvalidWishes, wrong, quarrel, 2, FIVE, good, wrong)
            # What is no list of wishes is told ahead of what cannot be met.
            helper.refusal(self, InvalidWishes, wrong, quarrel, 2, FIVE, UNMET[0], wrong)
            helper.refusal(self, InvalidCompany, (), quarrel, 2, (), wrong, wrong)
            helper.refusal(self, InvalidNumber, "2", quarrel, "2", (), wrong, wrong)
        for wrong in UNMET:
            helper.refusal(self, InvalidWishes, wrong, quarrel, 2, FIVE, wrong, good)
            helper.refusal(self, InvalidWishes, wrong, quarrel, 2, FIVE, wrong, list(UNMET[1]))
            helper.refusal(self, InvalidWishes, wrong, quarrel, 2, FIVE, good, wrong)


class ErrorsTest(unittest.TestCase):
    def test_what_are_no_wishes(self):
        for wrong in WRONG_WISHES:
            for function in PLAIN:
                helper.refusal(self, InvalidWishes, wrong, function, 2, FIVE, wrong)
                helper.refusal(self, InvalidCompany, None, function, 2, None, wrong)
                helper.refusal(self, InvalidNumber, (), function, (), None, wrong)
            for function in (is_refusing, is_meeting):
                helper.refusal(self, InvalidWishes, wrong, function, 2, FIVE, wrong, None)
                helper.refusal(self, InvalidWishes, wrong, function, 2, FIVE, wrong, FIVE)
                helper.refusal(self, InvalidCompany, None, function, 2, None, wrong, [0])
                helper.refusal(self, InvalidNumber, (), function, (), None, wrong, [0])
        alone = [(0, 1, 0)]
        for function in PLAIN:
            helper.refusal(self, InvalidWishes, alone, function, 2, [[]], alone)

    def test_wishes_that_cannot_be_met(self):
        for wrong in UNMET:
            for function in (sure_under, nearest, first_meeting):
                helper.refusal(self, InvalidWishes, wrong, function, 2, FIVE, wrong)
            self.assertIs(can_meet(2, FIVE, wrong), False)
            self.assertEqual(how_many_meet(2, FIVE, wrong), 0)
            self.assertIsNotNone(refusing_four(2, FIVE, wrong))

    def test_wishes_that_are_met_already(self):
        for kinds, members in some_classes(30):
            company = members[-1]
            wishes = [(low, high, company[high][low]) for low, high in helper.couples_of(len(company))]
            self.assertEqual([can_meet(kinds, company, wishes), refusing_four(kinds, company, wishes)], [True, None])
            self.assertEqual(nearest(kinds, company, wishes), (0, company))
            self.assertEqual([first_meeting(kinds, company, wishes), how_many_meet(kinds, company, wishes)], [company, 1])
            self.assertEqual(sure_under(kinds, company, wishes), wishes)


def ways_that_fit(people, barred, kinds):
    """In how many ways people who may be turned in all couples but some can be, going through the first one's."""
    @lru_cache(None)
    def ways(left):
        if not left:
            return 1
        first, rest = left[0], left[1:]
        free = [other for other in rest if (first, other) not in barred]
        return ways(rest) + (kinds - 1) * sum(ways(tuple(one for one in rest if one != other)) for other in free)

    return ways(tuple(people))


class LimitsTest(unittest.TestCase):
    def test_groups_of_twelve_with_wishes_of_the_base(self):
        rng = Random(63)
        couples = helper.couples_of(12)
        for kinds in (2, 3, 9):
            for many in (0, 1, 10, 33, 60, 66):
                company = member_by_chance(rng, kinds, [[1] * person for person in range(12)])
                barred = set(rng.sample(couples, many))
                wishes = sorted((low, high, 1) for low, high in barred)
                self.assertEqual(how_many_meet(kinds, company, wishes), ways_that_fit(range(12), barred, kinds))

    def test_forty_people(self):
        rng = Random(64)
        for kinds, sizes in ((2, [12, 12, 12, 4]), (9, [11, 12, 2, 12, 3]), (3, [40])):
            start = helper.layered(sizes)
            one, other = member_by_chance(rng, kinds, start), member_by_chance(rng, kinds, start)
            couples = helper.couples_of(40)
            for many in (0, 5, 780):
                # Wishes that the other company meets; of a group of forty these would be too many to count.
                wishes = [(low, high, other[high][low]) for low, high in sorted(rng.sample(couples, many))]
                self.assertIs(can_meet(kinds, one, wishes), True)
                self.assertIsNone(refusing_four(kinds, one, wishes))
                deeds, found = nearest(kinds, one, wishes)
                self.assertTrue(are_joined(kinds, one, found) and meets(found, wishes))
                self.assertEqual(deeds, len(differing(kinds, one, found)))
                self.assertIs(is_between(kinds, one, other, found), True)
                first = first_meeting(kinds, one, wishes)
                self.assertTrue(first <= other and are_joined(kinds, one, first) and meets(first, wishes))
                self.assertIs(is_meeting(kinds, one, wishes, other), True)
                if sizes != [40]:
                    self.assertGreater(how_many_meet(kinds, one, wishes), 0)
                sure = sure_under(kinds, one, wishes)
                self.assertTrue(meets(other, sure) and meets(found, sure) and meets(first, sure))
                self.assertIsNone(quarrel(kinds, one, wishes, sure))
            self.assertEqual([found, first, deeds], [other, other, len(differing(kinds, one, other))])

    def test_sixteen_people_who_refuse(self):
        same = [[0] * person for person in range(16)]
        told = [(low, low + 1, 1) for low in range(0, 12, 2)]
        self.assertEqual(refusing_four(2, same, told + [(12, 13, 1), (13, 15, 1)]), [0, 12, 13, 15])
        rng = Random(65)
        for _ in range(10):
            grower = helper.Grower(3, rng)
            company, _ = grower.shuffled(*grower.grown(grower.tree(16)))
            wishes = [
                (low, high, rng.randrange(3) if rng.random() < 0.1 else company[high][low])
                for low, high in sorted(rng.sample(helper.couples_of(16), 12))
            ]
            four = refusing_four(3, company, wishes)
            self.assertIs(four is None, can_meet(3, company, wishes))
            if four is not None:
                for lot in combinations(range(16), 4):
                    self.assertIs(refuses(3, company, wishes, list(lot)), list(lot) == four)
                    if list(lot) == four:
                        break

    def test_forty_people_who_refuse(self):
        company = helper.row_of_friends(40)
        self.assertEqual(refusing_four(2, company, [(0, 39, 1)]), [0, 1, 2, 39])
        self.assertIs(is_refusing(2, company, [(0, 39, 1)], list(range(40))), True)


if __name__ == "__main__":
    unittest.main()
