"""[57], [58], [60] and `undone_program` of [61]: programs, states of lots, and programs that are alike."""

import unittest
from itertools import combinations, product
from random import Random

from tests import helper
from tests.test_letdown import small_classes
from twinties.errors import InvalidCompany, InvalidLot, InvalidNumber, InvalidProgram, InvalidWishes, TooMany
from twinties.programs import how_many_states, is_program, parting_company, parting_state, programs_alike, run
from twinties.programs import state_after, states_of, undone_program
from twinties.sizes import group_size

PLAIN, ONE, OTHER = [[], [0], [0, 0], [0, 0, 0]], [(0, 1), (1, 2)], [(1, 2), (0, 1)]

WRONG_PROGRAMS = [
    None, True, 0, "", "01", (), ((0, 1),), {}, (0, 1), [0], [None], [()], [(0,)], [(0, 1, 2)], [[0, 1]], [(1, 0)],
    [(1, 1)], [(0, 40)], [(39, 40)], [(-1, 0)], [(False, 1)], [(0, True)], [("0", 1)], [(0, "1")], [(None, 1)],
    [(0, None)], [((0, 1), 2)], [(0, [1])], [(0, 1), None], [(0, 1), [0, 1]], [(0, 1), (2, 1)],
    [(0, helper.THIRTY_FIGURES)], [[]], [(0, 1), ((0, 1),)],
]
WRONG_STATE_LOTS = [
    None, True, 0, "0", "", (), (0,), (0, 1), {}, [], [1, 0], [0, 0], [0, 1, 1], [40], [0, 40], [-1], [-1, 0], [True],
    [False, 1], [0, True], ["0"], [[0]], [(0,)], [None], [0, None], [0, 2, 1], list(range(41)),
    [0, helper.THIRTY_FIGURES],
]
# For the lot [0, 2, 5] and two kinds.
WRONG_STATES = [
    None, True, 0, "", (), ((0, 2, 1),), {}, (0, 2, 1), [0], [None], [[]], [()], [[0, 2, 1]], [(0, 2)], [(0, 2, 1, 0)],
    [(0, 2, 0)], [(0, 2, 2)], [(0, 2, -1)], [(0, 2, True)], [(0, 2, "1")], [(0, 2, None)], [(2, 0, 1)], [(0, 0, 1)],
    [(0, 1, 1)], [(1, 2, 1)], [(0, 6, 1)], [(False, 2, 1)], [("0", 2, 1)], [(0, 2, 1), (0, 5, 1)],
    [(0, 2, 1), (0, 2, 1)], [(0, 2, 1), (2, 5, 1)], [(0, 2, 1), None], [(0, 2, helper.THIRTY_FIGURES)],
]


def program_by_chance(rng, persons, turns):
    couples = list(combinations(sorted(persons), 2))
    return [rng.choice(couples) for _ in range(turns)]


def turned_by_definition(kinds, company, turn):
    low, high = turn
    behind = [list(row) for row in company]
    if helper.alike_by_definition(company, low, high):
        behind[high][low] = (company[high][low] + 1) % kinds
    return behind


def run_by_definition(kinds, company, program):
    for turn in program:
        company = turned_by_definition(kinds, company, turn)
    return company


def states_by_definition(kinds, lot):
    """All lists of couples of a lot without a common person, with shifts, in order."""
    couples = list(combinations(lot, 2))
    found = []
    for many in range(len(lot) // 2 + 1):
        for told in combinations(couples, many):
            if len({person for couple in told for person in couple}) == 2 * many:
                for shifts in product(range(1, kinds), repeat=many):
                    found.append([couple + (shift,) for couple, shift in zip(told, shifts)])
    return sorted(found)


def state_by_definition(kinds, lot, state, program):
    """The state behind a program, turn by turn as [58] says it."""
    state = [list(told) for told in state]
    for low, high in program:
        if low in lot and high in lot:
            at_low = [told for told in state if low in told[:2]]
            at_high = [told for told in state if high in told[:2]]
            if not at_low and not at_high:
                state.append([low, high, 1])
            elif at_low == at_high:
                at_low[0][2] += 1
                if at_low[0][2] == kinds:
                    state.remove(at_low[0])
    return sorted(tuple(told) for told in state)


def persons_of(*programs):
    return sorted({person for program in programs for turn in program for person in turn})


def parting_by_definition(kinds, one, other):
    persons = persons_of(one, other)
    for many in range(1, len(persons) + 1):
        for lot in combinations(persons, many):
            for state in states_by_definition(kinds, lot):
                if state_by_definition(kinds, lot, state, one) != state_by_definition(kinds, lot, state, other):
                    return list(lot), state
    return None


class ExamplesTest(unittest.TestCase):
    def test_programs(self):
        self.assertEqual(
            [is_program(ONE), is_program([(1, 0)]), is_program([]), run(2, PLAIN, ONE), run(2, PLAIN, OTHER),
             run(3, PLAIN, ONE + ONE)],
            [True, False, True, [[], [1], [0, 0], [0, 0, 0]], [[], [0], [0, 1], [0, 0, 0]],
             [[], [2], [0, 0], [0, 0, 0]]],
        )

    def test_states(self):
        self.assertEqual(
            [states_of(2, [0, 1, 2]), how_many_states(2, 6), how_many_states(3, 4),
             state_after(3, [0, 2, 5], [(0, 5, 2)], [(0, 5), (0, 2), (2, 5)])],
            [[[], [(0, 1, 1)], [(0, 2, 1)], [(1, 2, 1)]], 76, 25, [(0, 2, 1)]],
        )

    def test_alike(self):
        self.assertEqual(
            [programs_alike(2, ONE, OTHER), parting_state(2, ONE, OTHER),
             programs_alike(2, [(0, 1), (2, 3)], [(2, 3), (0, 1)]), parting_company(2, ONE, OTHER)],
            [False, ([0, 1, 2], []), True, [[], [0], [0, 0], [1, 1, 1]]],
        )
        self.assertEqual(undone_program(3, ONE), [(1, 2), (1, 2), (0, 1), (0, 1)])
        self.assertIsNone(parting_company(2, [], []))


class ProgramTest(unittest.TestCase):
    def test_what_is_a_program(self):
        for value in ([], [(0, 1)], [(0, 39)], [(38, 39), (0, 1), (38, 39)], [(0, 1)] * 1000,
                      [(low, low + 1) for low in range(39)]):
            self.assertIs(is_program(value), True)
        for value in WRONG_PROGRAMS + helper.ANYTHING:
            self.assertIs(is_program(value), False)

    def test_a_program_does_its_turns_one_by_one(self):
        rng = Random(57)
        for kinds, members in small_classes():
            for company in members[:6]:
                people = len(company)
                for turns in (0, 1, 2, 5, 12) if people > 1 else (0,):
                    program = program_by_chance(rng, range(people), turns) if turns else []
                    self.assertEqual(run(kinds, company, program), run_by_definition(kinds, company, program))

    def test_turns_go_round_and_others_do_nothing(self):
        for kinds in range(2, 10):
            company = [[], [kinds - 1]]
            for times in range(12):
                self.assertEqual(run(kinds, company, [(0, 1)] * times), [[], [(kinds - 1 + times) % kinds]])
        row = helper.row_of_friends(4)
        self.assertEqual(run(2, row, helper.couples_of(4)), row)
        self.assertEqual([run(9, [[]], []), run(2, row, [])], [[[]], row])

    def test_persons_have_to_be_of_the_company(self):
        for wrong in ([(0, 4)], [(0, 1), (3, 4)], [(38, 39)], [(0, 1), (0, 39), (0, 1)]):
            helper.refusal(self, InvalidProgram, wrong, run, 2, PLAIN, wrong)
            helper.refusal(self, InvalidCompany, None, run, 2, None, wrong)
            helper.refusal(self, InvalidNumber, 1, run, 1, None, wrong)
        for wrong in WRONG_PROGRAMS:
            helper.refusal(self, InvalidProgram, wrong, run, 2, PLAIN, wrong)
        wrong = [(0, 1)]
        helper.refusal(self, InvalidProgram, wrong, run, 2, [[]], wrong)


class StatesTest(unittest.TestCase):
    def test_all_states_in_order(self):
        for kinds, most in ((2, 7), (3, 5), (4, 4), (9, 4)):
            for many in range(1, most + 1):
                lot = [person * 3 + 1 for person in range(many)]
                self.assertEqual(states_of(kinds, lot), states_by_definition(kinds, lot))
                self.assertEqual(how_many_states(kinds, many), len(states_of(kinds, lot)))
        self.assertEqual([states_of(9, [39]), how_many_states(2, 0), how_many_states(9, 1)], [[[]], 1, 1])

    def test_the_numbers_of_states(self):
        for kinds in range(2, 10):
            told = [how_many_states(kinds, many) for many in range(41)]
            self.assertEqual(told[:2], [1, 1])
            for many in range(2, 41):
                self.assertEqual(told[many], told[many - 1] + told[many - 2] * (many - 1) * (kinds - 1))
                self.assertEqual(told[many], group_size(kinds, many))

    def test_more_than_a_thousand_states(self):
        # No lot has 1,000 or 1,001 of them: these have the nearest numbers.
        told = {}
        for kinds in range(2, 10):
            for many in range(1, 10):
                states = how_many_states(kinds, many)
                lot = list(range(40 - many, 40))
                told[states] = (kinds, lot)
                if states <= 1000:
                    self.assertEqual(len(states_of(kinds, lot)), states)
                else:
                    with self.assertRaises(TooMany) as caught:
                        states_of(kinds, lot)
                    self.assertEqual(caught.exception.value, states)
        self.assertEqual([max(many for many in told if many <= 1000), min(many for many in told if many > 1000)],
                         [856, 1041])
        with self.assertRaises(TooMany) as caught:
            states_of(2, list(range(40)))
        self.assertEqual(caught.exception.value, how_many_states(2, 40))

    def test_programs_lead_states_to_states(self):
        rng = Random(58)
        for kinds in (2, 3, 9):
            for lot in ([0, 2, 5], [1, 2], [7], [0, 3, 4, 9], [0, 1, 2, 3, 4]):
                states = states_by_definition(kinds, lot)
                for state in states if len(states) < 50 else rng.sample(states, 50):
                    program = program_by_chance(rng, lot + [10, 11], rng.randrange(20))
                    self.assertEqual(
                        state_after(kinds, lot, state, program), state_by_definition(kinds, lot, state, program),
                    )

    def test_turns_of_persons_who_are_not_of_the_lot(self):
        for state in states_of(3, [0, 2, 5]):
            for program in ([], [(0, 1)], [(1, 2), (3, 4), (2, 6), (38, 39)]):
                self.assertEqual(state_after(3, [0, 2, 5], state, program), state)
        self.assertEqual(state_after(2, [4], [], [(0, 4), (4, 5), (0, 1)]), [])

    def test_a_tuple_falls_out(self):
        self.assertEqual([state_after(3, [0, 1], [], [(0, 1)] * times) for times in range(5)],
                         [[], [(0, 1, 1)], [(0, 1, 2)], [], [(0, 1, 1)]])
        self.assertEqual(state_after(3, [0, 1, 2], [(0, 1, 1)], [(0, 2), (1, 2), (0, 1), (0, 1), (1, 2)]), [(1, 2, 1)])

    def test_a_lot_of_forty(self):
        everybody = list(range(40))
        state = [(low, low + 1, 1) for low in range(0, 40, 2)]
        self.assertEqual(state_after(2, everybody, state, [(38, 39), (0, 1), (0, 39), (1, 2)]),
                         [(0, 39, 1)] + state[1:-1])

    def test_errors(self):
        for wrong in WRONG_STATE_LOTS:
            helper.refusal(self, InvalidLot, wrong, states_of, 2, wrong)
            helper.refusal(self, InvalidNumber, 10, states_of, 10, wrong)
            helper.refusal(self, InvalidLot, wrong, state_after, 2, wrong, None, None)
            helper.refusal(self, InvalidNumber, 10, state_after, 10, wrong, None, None)
        for wrong in WRONG_STATES:
            helper.refusal(self, InvalidWishes, wrong, state_after, 2, [0, 2, 5], wrong, ONE)
            helper.refusal(self, InvalidWishes, wrong, state_after, 2, [0, 2, 5], wrong, None)
        for wrong in WRONG_PROGRAMS:
            helper.refusal(self, InvalidProgram, wrong, state_after, 2, [0, 2, 5], [], wrong)
        wrong = [(1, 2, 1), (0, 3, 1)]
        helper.refusal(self, InvalidWishes, wrong, state_after, 2, [0, 1, 2, 3], wrong, ONE)
        self.assertEqual(state_after(2, [0, 1, 2, 3], wrong[::-1], []), wrong[::-1])
        for wrong in (None, True, -1, "3", [], 1.0):
            helper.refusal(self, InvalidNumber, wrong, how_many_states, 2, wrong)
            helper.refusal(self, InvalidNumber, (), how_many_states, (), wrong)


class AlikeTest(unittest.TestCase):
    def some_programs(self, rng, kinds, persons, tries):
        """Pairs of programs, some of them alike though they are not equal."""
        for _ in range(tries):
            one = program_by_chance(rng, persons, rng.randrange(8))
            other = program_by_chance(rng, persons, rng.randrange(8))
            yield one, other
            yield one + undone_program(kinds, other), one + undone_program(kinds, other + other) + other
            yield one * 2, [] if rng.random() < 0.3 else one * 2 + other + undone_program(kinds, other)

    def test_alike_are_those_that_make_the_same_of_all_companies_of_one_person_more(self):
        rng = Random(60)
        seen = {True: 0, False: 0}
        for kinds, people, tries in ((2, 2, 10), (2, 3, 30), (3, 3, 5), (2, 4, 4), (9, 2, 2)):
            for one, other in self.some_programs(rng, kinds, range(people), tries):
                persons = len(persons_of(one, other))
                if persons_of(one, other) == list(range(persons)):
                    told = all(
                        run(kinds, company, one) == run(kinds, company, other)
                        for company in helper.companies_of(kinds, persons + 1)
                    )
                    seen[told] += 1
                    self.assertIs(programs_alike(kinds, one, other), told)
        self.assertGreater(min(seen.values()), 15)

    def test_the_first_lot_and_state_that_part_them(self):
        rng = Random(61)
        for kinds, persons, tries in ((2, [0, 1, 2], 40), (3, [1, 4, 6], 20), (2, [0, 2, 3, 9], 20), (9, [5, 39], 10),
                                      (2, [0, 1, 2, 3, 4], 6), (4, [0, 1, 2, 8], 3)):
            for one, other in self.some_programs(rng, kinds, persons, tries):
                parting = parting_by_definition(kinds, one, other)
                self.assertEqual(parting_state(kinds, one, other), parting)
                self.assertIs(programs_alike(kinds, one, other), parting is None)

    def test_the_company_that_parts_them(self):
        rng = Random(62)
        for kinds, persons in ((2, [0, 1, 2]), (3, [1, 4, 6]), (2, [0, 2, 3, 9]), (9, [5, 38]), (3, [0, 36, 37, 38])):
            for one, other in self.some_programs(rng, kinds, persons, 10):
                parting = parting_state(kinds, one, other)
                company = parting_company(kinds, one, other)
                self.assertIs(company is None, parting is None)
                if parting is not None:
                    lot, state = parting
                    last = persons_of(one, other)[-1] + 1
                    told = [[0] * person for person in range(last)] + [[int(one in lot) for one in range(last)]]
                    for low, high, shift in state:
                        told[high][low] = shift
                    self.assertEqual(company, told)
                    self.assertNotEqual(run(kinds, company, one), run(kinds, company, other))

    def test_all_persons_who_are_named_can_be_needed(self):
        # What is done twice, the second time undone, is seen by all three alone.
        one = ONE + undone_program(2, ONE)[::-1] + ONE
        for kinds in (2, 3):
            self.assertEqual(parting_state(kinds, ONE, OTHER)[0], [0, 1, 2])
        # What goes round in threes among three people; and what is nothing among any three, but something among four.
        three = [(0, 1), (1, 2), (0, 1), (1, 2)] * 3
        self.assertIs(programs_alike(2, three, []), True)
        four = three[:4] + [(2, 3)] + undone_program(2, three[:4]) + [(2, 3)]
        twice = four + four
        self.assertEqual(len(persons_of(twice)), 4)
        thrice = twice + four
        for program in (one, four, twice, thrice, twice * 3):
            self.assertEqual(parting_state(2, program, []), parting_by_definition(2, program, []))
        self.assertEqual(len(parting_state(2, thrice, [])[0]), 4)

    def test_lots_of_more_than_a_thousand_states(self):
        for kinds in range(2, 10):
            many = min(many for many in range(10) if how_many_states(kinds, many) > 1000)
            program = [(low, low + 1) for low in range(many - 1)]
            for one, other in ((program, program), (program, []), ([], program), (program[:3], program[3:])):
                states = how_many_states(kinds, many)
                for function in (programs_alike, parting_state, parting_company):
                    with self.assertRaises(TooMany) as caught:
                        function(kinds, one, other)
                    self.assertEqual(caught.exception.value, states)
        self.assertIs(programs_alike(2, [(low, low + 1) for low in range(7)], [(0, 7)]), False)

    def test_errors(self):
        long = [(low, low + 1) for low in range(39)]
        for wrong in WRONG_PROGRAMS:
            for function in (programs_alike, parting_state, parting_company):
                helper.refusal(self, InvalidProgram, wrong, function, 2, wrong, ONE)
                helper.refusal(self, InvalidProgram, wrong, function, 2, wrong, None)
                helper.refusal(self, InvalidProgram, wrong, function, 2, ONE, wrong)
                # This is told ahead of how many states there are.
                helper.refusal(self, InvalidProgram, wrong, function, 2, wrong, long)
                helper.refusal(self, InvalidProgram, wrong, function, 2, long, wrong)
                helper.refusal(self, InvalidNumber, (), function, (), wrong, wrong)
            helper.refusal(self, InvalidProgram, wrong, undone_program, 2, wrong)
            helper.refusal(self, InvalidNumber, 0, undone_program, 0, wrong)


class UndoneTest(unittest.TestCase):
    def test_each_turn_one_less_than_there_are_kinds(self):
        for kinds in range(2, 10):
            told = [turn for turn in reversed(ONE + ONE) for _ in range(kinds - 1)]
            self.assertEqual(undone_program(kinds, ONE + ONE), told)
        self.assertEqual([undone_program(9, []), undone_program(2, ONE)], [[], OTHER])

    def test_both_together_are_alike_with_the_empty_program(self):
        rng = Random(63)
        for kinds, persons in ((2, range(6)), (3, range(5)), (4, range(4)), (9, range(4)), (9, [38, 39])):
            program = program_by_chance(rng, persons, 20)
            back = undone_program(kinds, program)
            self.assertIs(programs_alike(kinds, program + back, []), True)
            self.assertIs(programs_alike(kinds, back + program, []), True)


class LimitsTest(unittest.TestCase):
    def test_sixty_turns_of_six_persons(self):
        rng = Random(64)
        for kinds in (2, 3):
            one = program_by_chance(rng, range(6), 60)
            same = one[:20] + [one[0]] * kinds + one[20:]
            self.assertIs(programs_alike(kinds, one, same), True)
            self.assertIsNone(parting_state(kinds, same, one))
            self.assertIs(programs_alike(kinds, one, one[:-1]), False)
        eight = program_by_chance(rng, range(8), 60)
        self.assertIs(programs_alike(2, eight, eight[:30] + [eight[30]] * 2 + eight[30:]), True)

    def test_forty_people(self):
        rng = Random(65)
        for kinds in (2, 9):
            company = helper.layered([12, 12, 12, 4], kinds)
            program = program_by_chance(rng, [0, 5, 11, 12, 20, 39], 60)
            self.assertEqual(run(kinds, company, program), run_by_definition(kinds, company, program))


if __name__ == "__main__":
    unittest.main()
