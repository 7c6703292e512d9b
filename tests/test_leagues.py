"""[64] to [66]: leagues, turns in them, and which of them turns lead to."""

import unittest
from functools import lru_cache
from itertools import combinations, product
from random import Random

from tests import helper
from twinties.errors import InvalidCouple, InvalidLeague, InvalidPerson, Unlike
from twinties.leagues import are_joined_leagues, beats, is_league, is_league_road, league_couples, league_road
from twinties.leagues import league_turns, parting_people, turned

LEAGUE, RING, UP = [[], [0], [0, 0]], [[], [0], [1, 0]], [[], [1], [1, 1]]

WRONG_LEAGUES = helper.WRONG_COMPANIES
OF_TWO = [are_joined_leagues, parting_people, league_turns, league_road]


def won(league, one, other):
    """Whether one beat the other."""
    return league[one][other] == 1 if other < one else league[other][one] == 0


def alike_in(league, one, other):
    thirds = [third for third in range(len(league)) if third not in (one, other)]
    return all(won(league, third, one) == won(league, third, other) for third in thirds)


def behind_turn(league, couple):
    behind = [list(row) for row in league]
    behind[couple[1]][couple[0]] = 1 - behind[couple[1]][couple[0]]
    return behind


def league_among(league, lot):
    return [[int(won(league, person, before)) for before in lot[:place]] for place, person in enumerate(lot)]


def by_results(results, people):
    left = list(results)
    return [[left.pop(0) for _ in range(person)] for person in range(people)]


class LeagueWeb:
    """The class of a league, as turns alone make it."""

    def __init__(self, league):
        found = {repr(league): league}
        row = [league]
        self.far = {repr(league): 0}
        for one in row:
            for couple in helper.couples_of(len(league)):
                if alike_in(one, *couple):
                    behind = behind_turn(one, couple)
                    if repr(behind) not in found:
                        found[repr(behind)] = behind
                        self.far[repr(behind)] = self.far[repr(one)] + 1
                        row.append(behind)
        self.members = sorted(row)


@lru_cache(None)
def web_of(text):
    return LeagueWeb(eval(text))


def class_of(league):
    return web_of(repr(league)).members


def leagues_of(people):
    for results in product(range(2), repeat=people * (people - 1) // 2):
        yield by_results(results, people)


@lru_cache(None)
def some_leagues():
    """All leagues of up to four people, and some of five and six."""
    rng = Random(64)
    found = [league for people in range(1, 5) for league in leagues_of(people)]
    for people in (5, 6):
        for _ in range(60):
            found.append(league_by_chance(rng, people))
    return found


def league_by_chance(rng, people):
    """A league with runs: rows of people who are beaten by others alike, and a few results that are not."""
    order = list(range(people))
    rng.shuffle(order)
    place = {person: number for number, person in enumerate(order)}
    league = [[int(place[person] < place[before]) for before in range(person)] for person in range(people)]
    for one, other in rng.sample(helper.couples_of(people), rng.choice((0, 1, 1, 2, 3)) if people > 2 else 0):
        league[other][one] = 1 - league[other][one]
    return league


def joined_by_turns(one, other):
    return other in class_of(one)


def some_pairs():
    """Pairs of leagues of as many people: all of up to four people, others with a league of the class."""
    for people in range(1, 5):
        for one in leagues_of(people):
            for other in leagues_of(people):
                yield one, other
    rng = Random(65)
    for league in some_leagues():
        if len(league) > 4:
            members = class_of(league)
            for other in rng.sample(members, min(4, len(members))):
                yield league, other
                yield league, behind_turn(other, rng.choice(helper.couples_of(len(league))))


class ExamplesTest(unittest.TestCase):
    def test_leagues(self):
        self.assertEqual(
            [is_league(LEAGUE), is_league([[], [2]]), beats(LEAGUE, 0, 2), beats(LEAGUE, 2, 0), league_couples(LEAGUE),
             league_couples(RING), turned(LEAGUE, (0, 1))],
            [True, False, True, False, [(0, 1), (1, 2)], [], [[], [1], [0, 0]]],
        )
        self.assertEqual(
            [are_joined_leagues(LEAGUE, UP), are_joined_leagues(LEAGUE, RING), parting_people(LEAGUE, RING),
             parting_people(LEAGUE, LEAGUE), league_turns(LEAGUE, UP)],
            [True, False, [0, 1, 2], None, 3],
        )
        self.assertEqual(
            [league_road(LEAGUE, UP), is_league_road(LEAGUE, LEAGUE, [(0, 1), (0, 1)]),
             is_league_road(LEAGUE, LEAGUE, [(0, 2)]), league_turns(LEAGUE, RING)],
            [[(0, 1), (0, 2), (1, 2)], True, False, None],
        )


class LeagueTest(unittest.TestCase):
    def test_what_is_a_league(self):
        for league in some_leagues() + [[[0] * person for person in range(40)]]:
            self.assertIs(is_league(league), True)
        for value in WRONG_LEAGUES + helper.ANYTHING:
            self.assertIs(is_league(value), False)

    def test_who_beat_whom(self):
        for league in some_leagues():
            for person in range(len(league)):
                for loser in range(len(league)):
                    if person != loser:
                        self.assertIs(beats(league, person, loser), won(league, person, loser))

    def test_who_stands_alike_and_what_is_turned(self):
        for league in some_leagues():
            alike = [couple for couple in helper.couples_of(len(league)) if alike_in(league, *couple)]
            self.assertEqual(league_couples(league), alike)
            for couple in helper.couples_of(len(league)):
                if couple in alike:
                    self.assertEqual(turned(league, couple), behind_turn(league, couple))
                else:
                    helper.refusal(self, InvalidCouple, couple, turned, league, couple)
        self.assertEqual([league_couples([[]]), league_couples([[], [0]]), turned([[], [0]], (0, 1))],
                         [[], [(0, 1)], [[], [1]]])

    def test_errors(self):
        five = [[0] * person for person in range(5)]
        for wrong in WRONG_LEAGUES:
            helper.refusal(self, InvalidLeague, wrong, beats, wrong, None, None)
            helper.refusal(self, InvalidLeague, wrong, league_couples, wrong)
            helper.refusal(self, InvalidLeague, wrong, turned, wrong, None)
        for wrong in (None, True, False, -1, 5, "0", (), [0], helper.THIRTY_FIGURES):
            helper.refusal(self, InvalidPerson, wrong, beats, five, wrong, 1)
            helper.refusal(self, InvalidPerson, wrong, beats, five, wrong, None)
            helper.refusal(self, InvalidPerson, wrong, beats, five, 0, wrong)
        for person in range(5):
            helper.refusal(self, InvalidPerson, person, beats, five, person, person)
        for wrong in helper.WRONG_COUPLES + [(0, 2), (1, 4)]:
            helper.refusal(self, InvalidCouple, wrong, turned, five, wrong)


class JoinedTest(unittest.TestCase):
    def test_joined_are_just_those_that_turns_lead_to(self):
        for one, other in some_pairs():
            self.assertIs(are_joined_leagues(one, other), joined_by_turns(one, other))

    def test_the_first_people_among_whom_they_are_not(self):
        told = {3: 0, 4: 0}
        for one, other in some_pairs():
            lots = helper.lots_of(len(one), 3) + helper.lots_of(len(one), 4)
            parting = [
                lot for lot in lots if not joined_by_turns(league_among(one, lot), league_among(other, lot))
            ]
            self.assertEqual(parting_people(one, other), parting[0] if parting else None)
            self.assertIs(parting == [], joined_by_turns(one, other))
            if parting:
                told[len(parting[0])] += 1
        self.assertGreater(min(told.values()), 3)

    def test_four_people_who_part_leagues_of_five(self):
        # A ring of 1, 2 and 3; the person 4 beat them all, or was beaten by them all, the person 0 beat everybody.
        one = [[], [0], [0, 0], [0, 1, 0], [0, 1, 1, 1]]
        other = [[], [0], [0, 0], [0, 1, 0], [0, 0, 0, 0]]
        self.assertEqual([parting_people(one, other), parting_people(other, one)], [[1, 2, 3, 4]] * 2)

    def test_a_couple_that_can_be_turned_next(self):
        for one, other in some_pairs():
            if joined_by_turns(one, other) and one != other:
                unlike = [(a, b) for a, b in helper.couples_of(len(one)) if one[b][a] != other[b][a]]
                near = []
                for a, b in unlike:
                    winner, loser = (a, b) if won(one, a, b) else (b, a)
                    thirds = [third for third in range(len(one)) if third not in (a, b)]
                    if not any(won(one, winner, third) and won(one, third, loser) for third in thirds):
                        near.append((a, b))
                self.assertNotEqual(near, [])
                self.assertTrue(all(couple in league_couples(one) for couple in near))


class RoadTest(unittest.TestCase):
    def test_how_many_turns(self):
        for one, other in some_pairs():
            far = web_of(repr(one)).far.get(repr(other))
            self.assertEqual(league_turns(one, other), far)
            if far is not None:
                unlike = sum(row[place] != told[place] for row, told in zip(one, other) for place in range(len(row)))
                self.assertEqual(far, unlike)

    def test_the_road_takes_the_first_couple_that_can_be(self):
        for one, other in some_pairs():
            if not joined_by_turns(one, other):
                self.assertIsNone(league_road(one, other))
                continue
            now, road = one, []
            while now != other:
                ready = [
                    couple for couple in helper.couples_of(len(one))
                    if alike_in(now, *couple) and now[couple[1]][couple[0]] != other[couple[1]][couple[0]]
                ]
                road.append(ready[0])
                now = behind_turn(now, ready[0])
            self.assertEqual(league_road(one, other), road)
            self.assertIs(is_league_road(one, other, road), True)

    def test_roads_of_any_length(self):
        rng = Random(66)
        for one, other in some_pairs():
            couples = helper.couples_of(len(one))
            for _ in range(2):
                road = [rng.choice(couples) for _ in range(rng.randrange(5))] if couples else []
                now, can = one, True
                for couple in road:
                    can = can and alike_in(now, *couple)
                    now = behind_turn(now, couple)
                self.assertIs(is_league_road(one, other, road), can and now == other)
        self.assertIs(is_league_road(LEAGUE, UP, [(0, 1), (0, 2), (1, 2)] + [(0, 1)] * 1000), True)
        self.assertIs(is_league_road(LEAGUE, LEAGUE, []), True)
        self.assertIs(is_league_road(RING, LEAGUE, []), False)

    def test_what_is_no_road(self):
        good = [(0, 1), (0, 2), (1, 2)]
        for value in helper.ANYTHING + [
            tuple(good), [[0, 1], (0, 2), (1, 2)], good[:2], good + [(0, 3)], good + [(0, 1, 0)], good + [(1, 0)] * 2,
            [(False, 1), (0, 2), (1, 2)], good + [None], [(0, 1)] * 3, good[::-1][:1],
        ]:
            self.assertIs(is_league_road(LEAGUE, UP, value), False)


class ErrorsTest(unittest.TestCase):
    def test_two_leagues(self):
        for wrong in WRONG_LEAGUES:
            for function in OF_TWO:
                helper.refusal(self, InvalidLeague, wrong, function, wrong, UP)
                helper.refusal(self, InvalidLeague, wrong, function, wrong, None)
                helper.refusal(self, InvalidLeague, wrong, function, UP, wrong)
                helper.refusal(self, InvalidLeague, wrong, function, [[]], wrong)
            helper.refusal(self, InvalidLeague, wrong, is_league_road, wrong, None, [])
            helper.refusal(self, InvalidLeague, wrong, is_league_road, UP, wrong, None)

    def test_unlike_numbers_of_people(self):
        for one, other in ((UP, [[]]), ([[]], UP), (UP, [[], [0]]), (RING, [[0] * person for person in range(40)])):
            for function in OF_TWO:
                helper.refusal(self, Unlike, other, function, one, other)
            for value in ([], None):
                helper.refusal(self, Unlike, other, is_league_road, one, other, value)


class LimitsTest(unittest.TestCase):
    def test_forty_people_in_a_row(self):
        down, up = [[0] * person for person in range(40)], [[1] * person for person in range(40)]
        self.assertEqual([are_joined_leagues(down, up), parting_people(down, up), league_turns(down, up)],
                         [True, None, 780])
        road = league_road(down, up)
        self.assertEqual(sorted(road), helper.couples_of(40))
        self.assertIs(is_league_road(down, up, road), True)
        self.assertIs(is_league_road(up, down, road[::-1]), True)
        self.assertIs(is_league_road(down, up, road[1:] + road[:1]), False)

    def test_forty_people_by_chance(self):
        rng = Random(67)
        for _ in range(8):
            league = league_by_chance(rng, 40)
            other = league
            for _ in range(100):
                alike = league_couples(other)
                other = turned(other, rng.choice(alike)) if alike else other
            self.assertIs(are_joined_leagues(league, other), True)
            road = league_road(league, other)
            self.assertEqual(len(road), league_turns(league, other))
            self.assertIs(is_league_road(league, other, road), True)
            for couple in rng.sample(helper.couples_of(40), 5):
                changed = behind_turn(league, couple)
                self.assertIs(are_joined_leagues(league, changed), couple in league_couples(league))
                parting = parting_people(league, changed)
                if parting is not None:
                    self.assertIs(joined_by_turns(league_among(league, parting), league_among(changed, parting)), False)

    def test_the_four_come_last(self):
        # A ring of 37, 38 and 39, whom everybody else beat, or but the person 36 who was beaten by them.
        one = [[0] * person for person in range(40)]
        one[39][37] = 1
        other = [list(row) for row in one]
        for person in (37, 38, 39):
            other[person][36] = 1
        self.assertEqual(parting_people(one, other), [36, 37, 38, 39])
        for lot in combinations(range(34, 40), 4):
            joined = joined_by_turns(league_among(one, list(lot)), league_among(other, list(lot)))
            self.assertIs(joined, lot != (36, 37, 38, 39))


if __name__ == "__main__":
    unittest.main()
