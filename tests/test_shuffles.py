"""[62], [63]: what programs can do to all states at once."""

import unittest
from functools import lru_cache
from itertools import permutations, product
from math import comb, factorial
from random import Random

from tests import helper
from tests.test_programs import ONE, OTHER, WRONG_PROGRAMS, WRONG_STATE_LOTS, program_by_chance, state_by_definition
from tests.test_programs import states_by_definition
from twinties.errors import InvalidLot, InvalidNumber, InvalidProgram, InvalidWishes, TooMany
from twinties.programs import how_many_states, is_program, programs_alike, states_of
from twinties.shuffles import how_many_programs, is_told, made_program, shortest_program, shuffle_of

THREE = [[0, 1], [0, 2], [1, 2], [0, 1, 2]]
TURNS = [(0, 1), (0, 2), (1, 2)]
FAMILY = [[1, 0], [0, 1], [0, 1], [1, 0, 2, 3]]

# For three persons and two kinds.
WRONG_FAMILIES = [
    None, True, 0, "", (), [], {}, tuple(FAMILY), FAMILY[:3], FAMILY + [[0]], FAMILY[::-1], [None] * 4, [[]] * 4,
    [(1, 0), *FAMILY[1:]], [[0], *FAMILY[1:]], [[1, 0, 2], *FAMILY[1:]], [[0, 0], *FAMILY[1:]], [[1, 2], *FAMILY[1:]],
    [[1, False], *FAMILY[1:]], [[True, 0], *FAMILY[1:]], [["1", "0"], *FAMILY[1:]], [[None, 0], *FAMILY[1:]],
    FAMILY[:3] + [(1, 0, 2, 3)], FAMILY[:3] + [[1, 0, 2]], FAMILY[:3] + [[1, 0, 2, 2]], FAMILY[:3] + [[1, 0, 2, 4]],
    FAMILY[:3] + [[1, 0, 3, 2]], FAMILY[:3] + [[0, 1, 2, 3]], [[0, 1], *FAMILY[1:]], [FAMILY[0], [1, 0], *FAMILY[2:]],
    FAMILY[:3] + [[1, -1, 2, 3]], FAMILY[:3] + [[1, 0, 2, helper.THIRTY_FIGURES]],
]


def lots_for(many):
    return sorted(helper.lots_of(many), key=lambda lot: (len(lot), lot))[many:]


def family_of(kinds, many, program):
    return [shuffle_of(kinds, lot, program) for lot in lots_for(many)]


def shuffle_by_definition(kinds, lot, program):
    states = states_by_definition(kinds, lot)
    return [states.index(state_by_definition(kinds, lot, state, program)) for state in states]


def stepped(family, turn):
    """A family for two kinds and three persons behind one turn more."""
    behind = []
    for lot, told in zip(THREE, family):
        states = states_by_definition(2, lot)
        led = [states.index(state_by_definition(2, lot, state, [turn])) for state in states]
        behind.append(tuple(led[place] for place in told))
    return tuple(behind)


@lru_cache(None)
def shortest_for_two_kinds():
    """The first of the shortest programs of three persons for each family, layer by layer in Python's order."""
    found = {}
    layer = {((0, 1), (0, 1), (0, 1), (0, 1, 2, 3)): []}
    while layer:
        found.update(layer)
        behind = {}
        for family, program in layer.items():
            for turn in TURNS:
                told = stepped(family, turn)
                if told not in found:
                    behind[told] = min(behind.get(told, program + [turn]), program + [turn])
        layer = behind
    return found


def family_by_chance(rng, kinds):
    """A family for three persons that a program has, and one that none has."""
    strides = [rng.randrange(kinds) for _ in range(3)]
    couples = [[(number + stride) % kinds for number in range(kinds)] for stride in strides]
    states = list(range(how_many_states(kinds, 3)))
    rng.shuffle(states)
    family = couples + [states]
    other = couples + [[states[1], states[0]] + states[2:]]
    return (family, other) if is_told(kinds, 3, family) else (other, family)


def is_odd(told):
    return sum(told[here] > told[there] for there in range(len(told)) for here in range(there)) % 2 == 1


class ExamplesTest(unittest.TestCase):
    def test_shuffles(self):
        self.assertEqual(
            [shuffle_of(2, [0, 1, 2], ONE), shuffle_of(2, [0, 1, 2], [(0, 1)]), is_told(2, 2, [[1, 0]]),
             is_told(2, 3, [[1, 0], [0, 1], [0, 1], [0, 1, 2, 3]]), is_told(3, 2, [[0, 2, 1]])],
            [[1, 3, 2, 0], [1, 0, 2, 3], True, False, False],
        )
        made = made_program(2, FAMILY)
        self.assertEqual([shuffle_of(2, lot, made) for lot in THREE], FAMILY)

    def test_how_many_and_the_shortest(self):
        self.assertEqual(
            [[how_many_programs(2, many) for many in range(4)], how_many_programs(3, 3),
             shortest_program([(0, 1), (0, 1), (1, 2)]), shortest_program(ONE + ONE + ONE + ONE + ONE)],
            [[1, 1, 2, 96], 68040, [(1, 2)], OTHER],
        )


class ShuffleTest(unittest.TestCase):
    def test_where_a_program_leads_all_states(self):
        rng = Random(62)
        for kinds, lot in ((2, [0, 1]), (3, [0, 2, 5]), (9, [7]), (2, [0, 1, 2, 3, 4]), (9, [1, 38, 39]),
                           (4, [0, 3, 4, 9]), (2, [5, 6, 7, 8, 9, 10])):
            for turns in (0, 1, 3, 12):
                program = program_by_chance(rng, lot + [11, 12], turns)
                told = shuffle_of(kinds, lot, program)
                self.assertEqual(told, shuffle_by_definition(kinds, lot, program))
                self.assertEqual(sorted(told), list(range(how_many_states(kinds, len(lot)))))

    def test_more_than_a_thousand_states(self):
        for kinds in range(2, 10):
            many = min(many for many in range(10) if how_many_states(kinds, many) > 1000)
            with self.assertRaises(TooMany) as caught:
                shuffle_of(kinds, list(range(many)), ONE)
            self.assertEqual(caught.exception.value, how_many_states(kinds, many))
            # The persons who are named do not matter.
            named = [(low, low + 1) for low in range(39)]
            self.assertEqual(len(shuffle_of(kinds, list(range(many - 1)), named)), how_many_states(kinds, many - 1))

    def test_errors(self):
        everybody = list(range(40))
        for wrong in WRONG_STATE_LOTS:
            helper.refusal(self, InvalidLot, wrong, shuffle_of, 2, wrong, ONE)
            helper.refusal(self, InvalidLot, wrong, shuffle_of, 2, wrong, None)
            helper.refusal(self, InvalidNumber, (), shuffle_of, (), wrong, None)
        for wrong in WRONG_PROGRAMS:
            helper.refusal(self, InvalidProgram, wrong, shuffle_of, 2, [0, 1], wrong)
            helper.refusal(self, InvalidProgram, wrong, shuffle_of, 2, everybody, wrong)


class FamilyTest(unittest.TestCase):
    def test_families_of_programs_are_told(self):
        rng = Random(63)
        for kinds in range(2, 10):
            for many in range(5):
                for turns in (0, 1, 2, 9, 20) if many > 1 else (0,):
                    program = program_by_chance(rng, range(many), turns) if turns else []
                    family = family_of(kinds, many, program)
                    self.assertIs(is_told(kinds, many, family), True)
                    for place, told in enumerate(family):
                        # Two numbers exchanged make a list of another couple, or an odd one of an even one.
                        if kinds > 2 or len(told) > 2:
                            wrong = [told[1], told[0]] + told[2:]
                            self.assertIs(is_told(kinds, many, family[:place] + [wrong] + family[place + 1:]), False)

    def test_just_so_many_families_as_programs_make(self):
        families = shortest_for_two_kinds()
        self.assertEqual(len(families), 96)
        two = [list(told) for told in permutations(range(2))]
        told = [
            list(couples) + [list(states)] for couples in product(two, repeat=3) for states in permutations(range(4))
            if is_told(2, 3, list(couples) + [list(states)])
        ]
        self.assertEqual(sorted(told), sorted([list(lot) for lot in family] for family in families))

    def test_nothing_else_is_asked(self):
        # For two persons a program turns just so often; of each longer list two exchanges make another one.
        for kinds in range(2, 10):
            for stride in range(kinds):
                self.assertIs(is_told(kinds, 2, [[(number + stride) % kinds for number in range(kinds)]]), True)
            self.assertIs(is_told(kinds, 2, [list(range(kinds))[::-1]]), kinds == 2)
        rng = Random(64)
        for kinds in (2, 3, 6):
            family = family_of(kinds, 4, program_by_chance(rng, range(4), 10))
            for place in range(6, 11):
                for _ in range(6):
                    changed = [list(told) for told in family]
                    for _ in range(2):
                        one, other = rng.sample(range(len(changed[place])), 2)
                        changed[place][one], changed[place][other] = changed[place][other], changed[place][one]
                    self.assertIs(is_told(kinds, 4, changed), True)

    def test_strides_and_lists_of_three(self):
        for kinds in (2, 3, 4, 5):
            empty = [list(range(kinds))] * 3 + [list(range(3 * kinds - 2))]
            self.assertIs(is_told(kinds, 3, empty), True)
            one = [[(number + 1) % kinds for number in range(kinds)]] + empty[1:]
            self.assertIs(is_told(kinds, 3, one), kinds % 2 == 1)
            self.assertIs(is_told(kinds, 3, [one[0], one[0]] + empty[2:]), True)
            odd = [1, 0] + list(range(2, 3 * kinds - 2))
            self.assertIs(is_told(kinds, 3, one[:3] + [odd]), kinds % 2 == 0)
            self.assertIs(is_told(kinds, 3, empty[:3] + [odd]), False)

    def test_no_persons_and_one(self):
        for many in (0, 1):
            for value in helper.ANYTHING + [[[0]], [[]], [[0, 1]]]:
                self.assertIs(is_told(2, many, value), False)
            self.assertIs(is_told(2, many, []), True)

    def test_what_is_no_family(self):
        for value in WRONG_FAMILIES + helper.ANYTHING:
            self.assertIs(is_told(2, 3, value), False)
        for wrong in (None, True, False, -1, 5, 40, "3", [], (3,), helper.THIRTY_FIGURES):
            helper.refusal(self, InvalidNumber, wrong, is_told, 2, wrong, FAMILY)
            helper.refusal(self, InvalidNumber, 10, is_told, 10, wrong, None)


class MadeTest(unittest.TestCase):
    def test_all_families_for_two_kinds(self):
        for family in shortest_for_two_kinds():
            told = [list(lot) for lot in family]
            self.assertEqual(family_of(2, 3, made_program(2, told)), told)

    def test_families_for_more_kinds(self):
        rng = Random(65)
        for kinds in range(2, 10):
            for _ in range(12):
                family, other = family_by_chance(rng, kinds)
                program = made_program(kinds, family)
                self.assertIs(is_program(program), True)
                self.assertTrue(all(turn in TURNS for turn in program))
                self.assertEqual(family_of(kinds, 3, program), family)
                helper.refusal(self, InvalidWishes, other, made_program, kinds, other)
            program = program_by_chance(rng, range(3), 20)
            made = made_program(kinds, family_of(kinds, 3, program))
            self.assertIs(programs_alike(kinds, made, program), True)

    def test_errors(self):
        for wrong in WRONG_FAMILIES:
            helper.refusal(self, InvalidWishes, wrong, made_program, 2, wrong)
            helper.refusal(self, InvalidNumber, 1, made_program, 1, wrong)
        helper.refusal(self, InvalidWishes, FAMILY, made_program, 3, FAMILY)


class CountTest(unittest.TestCase):
    def test_how_many_programs_there_are(self):
        for kinds in range(2, 10):
            for many in range(6):
                told = kinds ** comb(many, 2)
                for lot in lots_for(many):
                    told *= factorial(how_many_states(kinds, len(lot))) // 2 if len(lot) > 2 else 1
                self.assertEqual(how_many_programs(kinds, many), told)
        self.assertEqual(how_many_programs(2, 3), len(shortest_for_two_kinds()))

    def test_errors(self):
        for wrong in (None, True, False, -1, 6, 40, "3", [], (3,), helper.THIRTY_FIGURES):
            helper.refusal(self, InvalidNumber, wrong, how_many_programs, 2, wrong)
            helper.refusal(self, InvalidNumber, (), how_many_programs, (), wrong)

    def test_about_half_of_all_lists_can_come(self):
        # For three persons and kinds, each of the 7! lists is even or not, whatever the strides are.
        rng = Random(66)
        for _ in range(100):
            states = list(range(7))
            rng.shuffle(states)
            strides = [rng.randrange(3) for _ in range(3)]
            couples = [[(number + stride) % 3 for number in range(3)] for stride in strides]
            self.assertIs(is_told(3, 3, couples + [states]), not is_odd(states))


class ShortestTest(unittest.TestCase):
    def test_the_first_of_the_shortest(self):
        rng = Random(67)
        shortest = shortest_for_two_kinds()
        for program in shortest.values():
            self.assertEqual(shortest_program(program), program)
        for _ in range(150):
            program = program_by_chance(rng, range(3), rng.randrange(60))
            told = tuple(tuple(lot) for lot in family_of(2, 3, program))
            self.assertEqual(shortest_program(program), shortest[told])
        self.assertEqual([shortest_program([]), shortest_program(ONE * 6)], [[], []])

    def test_nothing_shorter_is_alike(self):
        for length in range(5):
            for told in product(TURNS, repeat=length):
                found = shortest_program(list(told))
                self.assertIs(programs_alike(2, found, list(told)), True)
                self.assertLessEqual((len(found), found), (length, list(told)))

    def test_errors(self):
        for wrong in WRONG_PROGRAMS + [[(0, 3)], [(2, 3)], [(0, 1), (38, 39)]]:
            helper.refusal(self, InvalidProgram, wrong, shortest_program, wrong)


class LimitsTest(unittest.TestCase):
    def test_sixty_turns_of_six_persons(self):
        rng = Random(68)
        for kinds, many in ((2, 8), (3, 6), (9, 4), (8, 5)):
            program = program_by_chance(rng, range(many), 60)
            told = shuffle_of(kinds, list(range(many)), program)
            states = states_of(kinds, list(range(many)))
            for number in rng.sample(range(len(states)), 20):
                self.assertEqual(state_by_definition(kinds, range(many), states[number], program), states[told[number]])

    def test_four_persons_and_nine_kinds(self):
        rng = Random(69)
        family = family_of(9, 4, program_by_chance(rng, range(4), 60))
        self.assertIs(is_told(9, 4, family), True)
        self.assertEqual(len(family[-1]), 241)


if __name__ == "__main__":
    unittest.main()
