"""[26] to [28], [30]: shortest roads, what bars what, bundles, and what lies between."""

import unittest
from itertools import permutations
from math import factorial
from random import Random

from tests import helper
from twinties.companies import differing, led, stand_alike
from twinties.errors import InvalidCompany, InvalidNumber, Unlike
from twinties.groups import groups_of, marked
from twinties.letdown import base_of
from twinties.roads import barring, bundles, distance, farthest, first_deeds, greatest_distance, how_many_between
from twinties.roads import how_many_roads, is_between, is_shortest, road
from twinties.zigzags import ring_number, zigzag_number

ONE, OTHER = [[], [1], [0, 0], [0, 0, 1]], [[], [0], [1, 0], [0, 1, 0]]
LOW, HIGH = [[], [1], [0, 0], [0, 0, 1], [0, 0, 0, 0]], [[], [0], [0, 1], [0, 0, 0], [0, 0, 0, 1]]
OF_TWO = [distance, road, first_deeds, barring, bundles, how_many_roads, how_many_between]


def some_pairs(most=300):
    """Webs with the numbers of two companies in them; all pairs, or some of them."""
    rng = Random(26)
    for web in helper.webs():
        many = range(len(web.members))
        pairs = [(start, end) for start in many for end in many]
        for start, end in pairs if len(pairs) <= most else rng.sample(pairs, most):
            yield web, start, end


def persons_of(couples):
    return {person for couple in couples for person in couple}


def bundles_by_definition(couples):
    """Couples that share persons, and so on, found by going from couple to couple."""
    left, found = list(couples), []
    while left:
        bundle = [left[0]]
        for couple in bundle:
            bundle.extend(other for other in left if other not in bundle and set(other) & set(couple))
        left = [couple for couple in left if couple not in bundle]
        lone = [one for one in persons_of(bundle) if sum(one in couple for couple in bundle) == 1]
        found.append((sorted(bundle), len(lone) < 2))
    return sorted(found)


class ExamplesTest(unittest.TestCase):
    def test_a_ring(self):
        self.assertEqual(
            [distance(2, ONE, OTHER), road(2, ONE, OTHER), how_many_roads(2, ONE, OTHER),
             how_many_between(2, ONE, OTHER)],
            [4, [(0, 1, 0), (2, 3, 0), (0, 2, 1), (1, 3, 1)], 4, 7],
        )
        self.assertEqual(
            [first_deeds(2, ONE, OTHER), barring(2, ONE, OTHER), bundles(2, ONE, OTHER)],
            [[(0, 1, 0), (2, 3, 0)],
             [((0, 1), (0, 2)), ((0, 1), (1, 3)), ((2, 3), (0, 2)), ((2, 3), (1, 3))],
             [([(0, 1), (0, 2), (1, 3), (2, 3)], True)]],
        )

    def test_a_stretch(self):
        self.assertEqual(
            [distance(2, LOW, HIGH), bundles(2, LOW, HIGH), how_many_roads(2, LOW, HIGH),
             how_many_between(2, LOW, HIGH), farthest(2, LOW), greatest_distance(2, LOW)],
            [4, [([(0, 1), (1, 2), (2, 3), (3, 4)], False)], 5, 8, 4, 4],
        )

    def test_the_others(self):
        self.assertEqual(
            [bundles(2, [[], [0]], [[], [1]]), distance(2, [[], [0], [0, 0]], [[], [1], [1, 1]]),
             road(3, [[], [2], [0, 0]], [[], [1], [0, 0]]), road(2, ONE, ONE), how_many_roads(2, ONE, ONE),
             farthest(2, [[], [0]])],
            [[([(0, 1)], False)], None, [(0, 1, 1)], [], 1, 1],
        )
        self.assertEqual(
            [is_shortest(2, ONE, OTHER, [(2, 3, 0), (0, 1, 0), (1, 3, 1), (0, 2, 1)]),
             is_shortest(2, ONE, OTHER, [(0, 1, 0), (0, 2, 1)]),
             is_between(2, ONE, OTHER, [[], [0], [0, 0], [0, 0, 0]])],
            [True, False, True],
        )
        self.assertEqual(farthest(2, [[], [0], [0, 0], [0, 0, 0], [0, 0, 0, 0]]), 2)


class RoadsTest(unittest.TestCase):
    def test_the_distance_is_what_rows_of_deeds_tell(self):
        for web, start, end in some_pairs(6000):
            one, other = web.members[start], web.members[end]
            self.assertEqual(distance(web.kinds, one, other), web.far[start][end])
            self.assertEqual(len(differing(web.kinds, one, other)), web.far[start][end])

    def test_the_first_of_the_shortest_roads_and_how_many(self):
        for web, start, end in some_pairs():
            one, other = web.members[start], web.members[end]
            roads = web.roads(start, end)
            self.assertEqual(road(web.kinds, one, other), min(roads))
            self.assertEqual(how_many_roads(web.kinds, one, other), len(roads))
            turned = sorted((low, high, other[high][low]) for low, high in differing(web.kinds, one, other))
            for row in roads[:20]:
                self.assertIs(is_shortest(web.kinds, one, other, row), True)
                self.assertEqual(sorted(row), turned)

    def test_rows_of_the_right_deeds_are_shortest_only_if_they_can_be_done(self):
        for one, other, kinds in ((ONE, OTHER, 2), (LOW, HIGH, 2), (OTHER, LOW[:4], 2)):
            web = helper.Web(kinds, one)
            roads = web.roads(web.members.index(one), web.members.index(other))
            first = road(kinds, one, other)
            for row in permutations(first):
                self.assertIs(is_shortest(kinds, one, other, list(row)), list(row) in roads)
            for wrong in (first[:-1], first + first[:1], tuple(first), [], first[:-1] + [None], [list(first[0])]):
                self.assertIs(is_shortest(kinds, one, other, wrong), False)

    def test_a_road_that_is_longer_is_not_shortest(self):
        one, other = [[], [0], [0, 0]], [[], [1], [0, 0]]
        long = [(0, 1, 2), (0, 1, 1)]
        self.assertEqual(led(3, one, long), other)
        self.assertIs(is_shortest(3, one, other, long), False)
        self.assertIs(is_shortest(3, one, other, [(0, 1, 1)]), True)
        self.assertIs(is_shortest(3, one, other, [(0, 1, 2)]), False)
        self.assertIs(is_shortest(3, one, one, [(0, 1, 1), (0, 1, 0)]), False)
        self.assertIs(is_shortest(3, one, one, []), True)

    def test_the_deeds_that_a_shortest_road_can_begin_with(self):
        for web, start, end in some_pairs():
            one, other = web.members[start], web.members[end]
            nearer = [deed for deed, behind in web.steps[start] if web.far[behind][end] < web.far[start][end]]
            self.assertEqual(first_deeds(web.kinds, one, other), sorted(nearer))
            self.assertEqual(
                nearer, [(low, high, other[high][low]) for low, high in differing(web.kinds, one, other)
                         if stand_alike(web.kinds, one, (low, high))],
            )
            for deed in nearer:
                self.assertEqual(distance(web.kinds, led(web.kinds, one, [deed]), other), web.far[start][end] - 1)

    def test_of_two_couples_with_a_person_in_common_one_bars_the_other(self):
        for web, start, end in some_pairs():
            one, other = web.members[start], web.members[end]
            couples = differing(web.kinds, one, other)
            bars = []
            for first in couples:
                for second in couples:
                    if first != second and set(first) & set(second):
                        self.assertIsNot(
                            stand_alike(web.kinds, one, first), stand_alike(web.kinds, one, second),
                        )
                        self.assertIsNot(stand_alike(web.kinds, one, first), stand_alike(web.kinds, other, first))
                        if stand_alike(web.kinds, one, first):
                            bars.append((first, second))
            self.assertEqual(barring(web.kinds, one, other), sorted(bars))

    def test_orders_of_shortest_roads_are_those_that_no_bar_forbids(self):
        for web, start, end in some_pairs(60):
            if web.far[start][end] <= 5:
                one, other = web.members[start], web.members[end]
                bars = barring(web.kinds, one, other)
                orders = [
                    row for row in permutations(differing(web.kinds, one, other))
                    if all(row.index(first) < row.index(second) for first, second in bars)
                ]
                roads = [tuple(deed[:2] for deed in row) for row in web.roads(start, end)]
                self.assertEqual(sorted(orders), sorted(roads))

    def test_bundles(self):
        kinds_of_bundles = set()
        for web, start, end in some_pairs(1000):
            one, other = web.members[start], web.members[end]
            found = bundles(web.kinds, one, other)
            self.assertEqual(found, bundles_by_definition(differing(web.kinds, one, other)))
            for couples, ring in found:
                self.assertIs(type(ring), bool)
                self.assertEqual(len(persons_of(couples)), len(couples) + (0 if ring else 1))
                kinds_of_bundles.add((len(couples), ring))
        self.assertTrue({(1, False), (2, False), (3, False), (4, True), (6, True)} <= kinds_of_bundles)

    def test_how_many_roads_by_the_bundles(self):
        for web, start, end in some_pairs():
            one, other = web.members[start], web.members[end]
            many = factorial(web.far[start][end])
            for couples, _ in bundles(web.kinds, one, other):
                many //= factorial(len(couples))
            for couples, ring in bundles(web.kinds, one, other):
                many *= ring_number(len(couples)) if ring else zigzag_number(len(couples))
            self.assertEqual(how_many_roads(web.kinds, one, other), many)


class BetweenTest(unittest.TestCase):
    def test_what_lies_between(self):
        for web, start, end in some_pairs(60):
            one, other = web.members[start], web.members[end]
            between = web.between(start, end)
            self.assertEqual(how_many_between(web.kinds, one, other), len(between))
            for place, company in enumerate(web.members):
                self.assertIs(is_between(web.kinds, one, other, company), place in between)
            self.assertIs(is_between(web.kinds, one, other, one), True)
            self.assertIs(is_between(web.kinds, one, other, other), True)

    def test_it_is_what_some_shortest_road_leads_past(self):
        for web, start, end in some_pairs(30):
            past = {start}
            for row in web.roads(start, end):
                for many in range(len(row) + 1):
                    past.add(web.members.index(led(web.kinds, web.members[start], row[:many])))
            self.assertEqual(sorted(past), web.between(start, end))

    def test_how_many_lie_between_in_all_webs(self):
        for web, start, end in some_pairs(1000):
            one, other = web.members[start], web.members[end]
            self.assertEqual(how_many_between(web.kinds, one, other), len(web.between(start, end)))

    def test_companies_that_are_not_joined_do_not_lie_between(self):
        for value in (HIGH, LOW, [[], [1], [1, 0], [0, 0, 1]], [[]], [[], [1], [0, 0]], [[], [1], [0, 0], [0, 0, 2]]):
            self.assertIs(is_between(2, ONE, OTHER, value), False)
        row = helper.row_of_friends(4)
        for value in (row, ONE, OTHER):
            self.assertIs(is_between(2, row, ONE, value), False)
            self.assertIs(is_between(2, ONE, row, value), False)
        self.assertIs(is_between(2, row, row, row), True)
        self.assertIs(is_between(3, [[], [0]], [[], [1]], [[], [2]]), False)
        self.assertIs(is_between(2, [[], [0]], [[], [1]], [[], [2]]), False)

    def test_the_farthest_company_and_the_greatest_distance(self):
        for web in helper.webs():
            for place, company in enumerate(web.members):
                self.assertEqual(farthest(web.kinds, company), max(web.far[place]))
                self.assertEqual(greatest_distance(web.kinds, company), max(max(row) for row in web.far))


class NotJoinedTest(unittest.TestCase):
    def test_all_pairs_of_small_companies(self):
        for kinds, people in ((2, 1), (2, 2), (2, 3), (2, 4), (3, 3)):
            classes = helper.classes_by_deeds(kinds, people)
            number = {repr(company): at for at, row in enumerate(classes) for company in row}
            for one in helper.companies_of(kinds, people):
                for other in helper.companies_of(kinds, people):
                    joined = number[repr(one)] == number[repr(other)]
                    self.assertIs(distance(kinds, one, other) is not None, joined)
                    self.assertIs(road(kinds, one, other) is not None, joined)
                    self.assertIs(how_many_roads(kinds, one, other) > 0, joined)

    def test_between_companies_that_are_not_joined_there_is_no_road(self):
        row = helper.row_of_friends(4)
        for one, other in ((row, ONE), (ONE, row), ([[], [0], [0, 0]], [[], [1], [1, 1]])):
            for function in (distance, road, first_deeds, barring, bundles):
                self.assertIsNone(function(2, one, other))
            self.assertEqual([how_many_roads(2, one, other), how_many_between(2, one, other)], [0, 0])
            self.assertIs(is_shortest(2, one, other, []), False)
            turned = [(low, high, other[high][low]) for low, high in differing(2, one, other)]
            self.assertIs(is_shortest(2, one, other, turned), False)

    def test_equal_companies_and_one_person(self):
        for kinds, company in ((2, [[]]), (9, [[]]), (2, ONE), (2, helper.row_of_friends(5)), (3, [[], [2]])):
            self.assertEqual(
                [distance(kinds, company, company), road(kinds, company, company),
                 first_deeds(kinds, company, company), barring(kinds, company, company),
                 bundles(kinds, company, company), how_many_roads(kinds, company, company),
                 how_many_between(kinds, company, company)],
                [0, [], [], [], [], 1, 1],
            )
            self.assertIs(is_shortest(kinds, company, company, []), True)
        self.assertEqual([farthest(9, [[]]), greatest_distance(9, [[]])], [0, 0])

    def test_errors(self):
        for function in OF_TWO:
            helper.refusal(self, InvalidNumber, 1, function, 1, None, None)
            helper.refusal(self, InvalidCompany, None, function, 2, None, {})
            helper.refusal(self, InvalidCompany, (), function, 2, ONE, ())
            helper.refusal(self, Unlike, LOW, function, 2, ONE, LOW)
        for function in (is_shortest, is_between):
            helper.refusal(self, InvalidNumber, 10, function, 10, None, None, None)
            helper.refusal(self, InvalidCompany, None, function, 2, None, {}, ONE)
            helper.refusal(self, InvalidCompany, (), function, 2, ONE, (), ONE)
            helper.refusal(self, Unlike, LOW, function, 2, ONE, LOW, None)
        for function in (farthest, greatest_distance):
            helper.refusal(self, InvalidNumber, None, function, None, None)
            wrong = [[], [2]]
            helper.refusal(self, InvalidCompany, wrong, function, 2, wrong)


def marks_at(rng, kinds, people, base):
    """Marks of a group, by chance."""
    order = rng.sample(people, len(people))
    many = rng.randint(0, len(people) // 2) if base is not None else 1
    couples = [tuple(sorted(order[2 * at:2 * at + 2])) for at in range(many)]
    return [(*couple, rng.choice([kind for kind in range(kinds) if kind != base])) for couple in couples]


def member_by_chance(rng, kinds, company):
    marks = [mark for group in groups_of(kinds, company) for mark in marks_at(rng, kinds, *group)]
    return marked(kinds, company, sorted(marks))


class LimitsTest(unittest.TestCase):
    def check_pair(self, kinds, one, other):
        couples = differing(kinds, one, other)
        self.assertEqual(distance(kinds, one, other), len(couples))
        row = road(kinds, one, other)
        self.assertEqual(led(kinds, one, row), other)
        self.assertEqual(len(row), len(couples))
        self.assertIs(is_shortest(kinds, one, other, row), True)
        self.assertEqual(bundles(kinds, one, other), bundles_by_definition(couples))
        self.assertEqual(how_many_roads(kinds, one, other), how_many_roads(kinds, other, one))
        self.assertEqual(how_many_between(kinds, one, other), how_many_between(kinds, other, one))
        self.assertTrue(row == [] or row[0] == first_deeds(kinds, one, other)[0])
        half = led(kinds, one, row[:len(row) // 2])
        self.assertIs(is_between(kinds, one, other, half), True)
        back = [(second, first) for first, second in barring(kinds, one, other)]
        self.assertEqual(barring(kinds, other, one), sorted(back))
        self.assertLessEqual(distance(kinds, one, other), farthest(kinds, one))
        self.assertLessEqual(farthest(kinds, one), greatest_distance(kinds, one))

    def test_forty_people(self):
        rng = Random(28)
        for kinds in range(2, 10):
            grower = helper.Grower(kinds, rng)
            starts = [grower.shuffled(*grower.grown(grower.tree(40)))[0] for _ in range(2)]
            for company in starts + [[[kinds - 1] * person for person in range(40)], helper.layered([13, 14, 13])]:
                one, other = [member_by_chance(rng, kinds, company) for _ in range(2)]
                self.check_pair(kinds, one, other)
                self.check_pair(kinds, one, base_of(kinds, one))

    def test_one_ring_and_one_stretch_of_forty_people(self):
        same = [[0] * person for person in range(40)]
        one = marked(2, same, [(at, at + 1, 1) for at in range(0, 40, 2)])
        ring = marked(2, same, sorted([(at, at + 1, 1) for at in range(1, 39, 2)] + [(0, 39, 1)]))
        stretch = marked(2, same, [(at, at + 1, 1) for at in range(1, 39, 2)])
        fibonacci = [0, 1]
        for _ in range(45):
            fibonacci.append(fibonacci[-1] + fibonacci[-2])
        self.assertEqual([distance(2, one, ring), farthest(2, one), greatest_distance(2, one)], [40, 40, 40])
        self.assertEqual(how_many_roads(2, one, ring), ring_number(40))
        self.assertEqual(how_many_between(2, one, ring), fibonacci[39] + fibonacci[41])
        self.assertEqual([distance(2, one, stretch), how_many_roads(2, one, stretch)], [39, zigzag_number(39)])
        self.assertEqual(how_many_between(2, one, stretch), fibonacci[41])
        self.assertEqual(first_deeds(2, one, ring), [(at, at + 1, 0) for at in range(0, 40, 2)])
        self.assertEqual(len(barring(2, one, ring)), 40)
        self.check_pair(2, one, ring)
        self.check_pair(2, stretch, one)


if __name__ == "__main__":
    unittest.main()
