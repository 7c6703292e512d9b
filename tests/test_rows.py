"""[67] to [69]: runs, and what all orders of them make."""

import unittest
from itertools import combinations, permutations
from math import factorial
from random import Random

from tests import helper
from tests.test_leagues import LEAGUE, RING, WRONG_LEAGUES, alike_in, behind_turn, class_of, league_among
from tests.test_leagues import league_by_chance, some_leagues, web_of, won
from twinties.errors import InvalidCouple, InvalidLeague, InvalidNumber
from twinties.leagues import league_couples, turned
from twinties.rows import is_sure_result, league_at, league_class_size, league_number, leagues_by_turns, runs
from twinties.rows import sure_people

FOUR, TWO = [[], [1], [1, 1], [1, 1, 1]], [[], [0], [0, 1], [1, 1, 1], [1, 0, 0, 1]]
PLAIN = [runs, league_class_size, leagues_by_turns, league_number]


def is_house(league, lot):
    outside = [person for person in range(len(league)) if person not in lot]
    return all(len({won(league, person, one) for one in lot}) == 1 for person in outside)


def is_row(league, row):
    if not all(won(league, one, other) for one, other in combinations(row, 2)):
        return False
    return all(is_house(league, row[start:end]) for start in range(len(row)) for end in range(start + 1, len(row) + 1))


def runs_by_definition(league):
    people = range(len(league))
    rows = [
        list(row) for many in range(2, len(league) + 1) for row in permutations(people, many) if is_row(league, row)
    ]
    within = [
        row for row in rows
        if any(row != other and row == other[start:start + len(row)] for other in rows for start in range(len(other)))
    ]
    return sorted([row for row in rows if row not in within], key=min)


def is_sure_by_turns(league, couple):
    return len({won(member, *couple) for member in class_of(league)}) == 1


def first_sure_lot(league, couple):
    """The first lot of three people, then of four, then of five, in whose class the result is sure."""
    for many in (3, 4, 5):
        for lot in helper.lots_of(len(league), many):
            if set(couple) <= set(lot):
                places = (lot.index(couple[0]), lot.index(couple[1]))
                if is_sure_by_turns(league_among(league, lot), places):
                    return lot
    return None


class ExamplesTest(unittest.TestCase):
    def test_runs(self):
        self.assertEqual(
            [runs(LEAGUE), runs(FOUR), runs(RING), runs([[], [0], [1, 0], [0, 0, 0]]), league_class_size(FOUR),
             leagues_by_turns(FOUR)],
            [[[0, 1, 2]], [[3, 2, 1, 0]], [], [], 24, [1, 3, 5, 6, 5, 3, 1]],
        )
        self.assertEqual([runs(TWO), league_class_size(TWO), league_number(TWO), sure_people(TWO, (0, 4))],
                         [[[3, 0], [2, 1]], 4, 3, [0, 1, 4]])

    def test_results_and_numbers(self):
        self.assertEqual(
            [is_sure_result(LEAGUE, (0, 2)), is_sure_result(RING, (0, 2)), league_at(LEAGUE, 0), league_at(LEAGUE, 5),
             league_number([[], [1], [0, 0]]), league_number(RING)],
            [False, True, [[], [0], [0, 0]], [[], [1], [1, 1]], 3, 0],
        )
        self.assertEqual(
            [sure_people(RING, (0, 2)), sure_people(LEAGUE, (0, 2)),
             sure_people([[], [0], [1, 0], [0, 0, 0]], (1, 3))],
            [[0, 1, 2], None, [0, 1, 2, 3]],
        )


class RunsTest(unittest.TestCase):
    def test_runs_by_definition(self):
        for league in some_leagues():
            if len(league) < 6 or league[1] == [0]:
                self.assertEqual(runs(league), runs_by_definition(league))

    def test_neighbours_in_runs_stand_alike(self):
        for league in some_leagues():
            near = [couple for row in runs(league) for couple in zip(row, row[1:])]
            self.assertEqual(sorted(tuple(sorted(couple)) for couple in near), league_couples(league))
            named = [person for row in runs(league) for person in row]
            self.assertEqual(len(set(named)), len(named))

    def test_the_class_has_all_orders_of_each_run(self):
        for league in some_leagues():
            members = class_of(league)
            rows = [sorted(row) for row in runs(league)]
            for member in members:
                self.assertEqual([sorted(row) for row in runs(member)], rows)
            told = 1
            for row in rows:
                told *= factorial(len(row))
            self.assertEqual(len(members), told)

    def test_runs_within_houses_of_others(self):
        # 0 beat all, 4 was beaten by all, 1 to 3 are a ring: who is above and below it is in no run.
        self.assertEqual(runs([[], [0], [0, 0], [0, 1, 0], [0, 0, 0, 0]]), [])
        # Two rows, each person of the one beats each of the other: one run.
        self.assertEqual(runs([[], [1], [0, 0], [0, 0, 1]]), [[1, 0, 3, 2]])
        # The persons 1 and 4 are a run within a ring with 0 and the run of 2 and 3.
        ring = [[], [0], [1, 0], [1, 0, 0], [0, 0, 1, 1]]
        self.assertEqual(runs(ring), [[1, 4], [2, 3]])
        self.assertEqual([runs([[]]), runs([[], [0]]), runs([[], [1]])], [[], [[0, 1]], [[1, 0]]])


class ClassTest(unittest.TestCase):
    def test_the_size_of_the_class(self):
        for league in some_leagues():
            self.assertEqual(league_class_size(league), len(class_of(league)))
        self.assertEqual([league_class_size([[]]), leagues_by_turns([[]])], [1, [1]])

    def test_how_many_are_how_many_turns_away(self):
        for league in some_leagues():
            far = list(web_of(repr(league)).far.values())
            self.assertEqual(leagues_by_turns(league), [far.count(turns) for turns in range(max(far) + 1)])

    def test_the_numbers_of_leagues(self):
        for league in some_leagues():
            members = class_of(league)
            self.assertEqual(league_number(league), members.index(league))
            for number in range(len(members)) if len(members) < 30 else (0, 1, 17, len(members) - 1):
                self.assertEqual(league_at(league, number), members[number])
                self.assertEqual(league_at(members[-1], number), members[number])


class SureTest(unittest.TestCase):
    def test_sure_results(self):
        for league in some_leagues():
            for couple in helper.couples_of(len(league)):
                self.assertIs(is_sure_result(league, couple), is_sure_by_turns(league, couple))

    def test_the_first_people_who_tell_it(self):
        told = {3: 0, 4: 0}
        for league in some_leagues():
            for couple in helper.couples_of(len(league)):
                lot = first_sure_lot(league, couple)
                self.assertEqual(sure_people(league, couple), lot)
                self.assertIs(lot is None, not is_sure_by_turns(league, couple))
                if lot is not None:
                    told[len(lot)] = told.get(len(lot), 0) + 1
        self.assertGreater(min(told.values()), 10)

    def test_five_people_are_needed(self):
        # The person 0 beat all, 4 was beaten by all, and between them there is a ring.
        between = [[], [0], [0, 0], [0, 1, 0], [0, 0, 0, 0]]
        self.assertEqual(sure_people(between, (0, 4)), [0, 1, 2, 3, 4])
        for lot in helper.lots_of(5, 4) + helper.lots_of(5, 3):
            if {0, 4} <= set(lot):
                self.assertIs(is_sure_by_turns(league_among(between, lot), (0, len(lot) - 1)), False)
        # Somebody more who beat everybody does not matter, nor one more between.
        six = between + [[1, 1, 1, 1, 1]]
        self.assertEqual(sure_people(six, (0, 4)), [0, 1, 2, 3, 4])
        more = between + [[0, 0, 0, 0, 1]]
        self.assertEqual(sure_people(more, (0, 4)), [0, 1, 2, 3, 4])

    def test_few_people(self):
        self.assertEqual([sure_people([[], [0]], (0, 1)), is_sure_result([[], [0]], (0, 1))], [None, False])
        for couple in helper.couples_of(3):
            self.assertEqual([sure_people(RING, couple), sure_people(LEAGUE, couple)], [[0, 1, 2], None])


class ErrorsTest(unittest.TestCase):
    def test_what_is_no_league(self):
        for wrong in WRONG_LEAGUES:
            for function in PLAIN:
                helper.refusal(self, InvalidLeague, wrong, function, wrong)
            for function in (is_sure_result, sure_people, league_at):
                helper.refusal(self, InvalidLeague, wrong, function, wrong, None)

    def test_wrong_couples_and_numbers(self):
        five = [[0] * person for person in range(5)]
        for wrong in helper.WRONG_COUPLES:
            for function in (is_sure_result, sure_people):
                helper.refusal(self, InvalidCouple, wrong, function, five, wrong)
        for wrong in (None, True, False, -1, 120, "0", (), [0], helper.THIRTY_FIGURES):
            helper.refusal(self, InvalidNumber, wrong, league_at, five, wrong)
        for wrong in (1, 2, True):
            helper.refusal(self, InvalidNumber, wrong, league_at, RING, wrong)
        self.assertEqual([league_at(RING, 0), league_at(five, 119)], [RING, [[1] * person for person in range(5)]])


class LimitsTest(unittest.TestCase):
    def test_forty_people_in_a_row(self):
        down, up = [[0] * person for person in range(40)], [[1] * person for person in range(40)]
        self.assertEqual([runs(down), runs(up)], [[list(range(40))], [list(range(39, -1, -1))]])
        size = factorial(40)
        self.assertEqual([league_class_size(up), league_number(up), league_number(down)], [size, size - 1, 0])
        self.assertEqual([league_at(up, 0), league_at(down, size - 1)], [down, up])
        turns = leagues_by_turns(up)
        self.assertEqual([len(turns), sum(turns), turns[:3], turns], [781, size, [1, 39, 779], turns[::-1]])
        helper.refusal(self, InvalidNumber, size, league_at, up, size)
        rng = Random(69)
        numbers = sorted(rng.randrange(10 ** 29) for _ in range(8))
        leagues = [league_at(up, number) for number in numbers]
        self.assertEqual(leagues, sorted(leagues))
        self.assertEqual([league_number(league) for league in leagues], numbers)

    def test_forty_people_by_chance(self):
        rng = Random(70)
        for _ in range(6):
            league = league_by_chance(rng, 40)
            size = league_class_size(league)
            self.assertEqual(sum(leagues_by_turns(league)), size)
            other = league
            for _ in range(60):
                alike = league_couples(other)
                other = turned(other, rng.choice(alike)) if alike else other
            self.assertEqual(league_at(league, league_number(other)), other)
            for couple in rng.sample(helper.couples_of(40), 6):
                lot = sure_people(league, couple)
                self.assertIs(lot is None, not is_sure_result(league, couple))
                if lot is not None:
                    places = (lot.index(couple[0]), lot.index(couple[1]))
                    self.assertIs(is_sure_by_turns(league_among(league, lot), places), True)
                elif alike_in(league, *couple):
                    self.assertEqual(runs(behind_turn(league, couple)) == runs(league), False)

    def test_the_five_come_last(self):
        league = [[0] * person for person in range(40)]
        league[38][36] = 1
        self.assertEqual([sure_people(league, (0, 39)), sure_people(league, (34, 39))],
                         [[0, 36, 37, 38, 39], [34, 36, 37, 38, 39]])
        self.assertIs(is_sure_by_turns(league_among(league, [0, 36, 37, 38, 39]), (0, 4)), True)
        self.assertEqual(runs(league), [list(range(36))])


if __name__ == "__main__":
    unittest.main()
