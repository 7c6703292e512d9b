"""[59] and `rounds_of` and `run_often` of [61]: blocks, and programs done again and again."""

import unittest
from itertools import combinations
from random import Random

from tests import helper
from tests.test_letdown import small_classes
from tests.test_programs import ONE, PLAIN, WRONG_PROGRAMS, persons_of, program_by_chance, state_by_definition
from tests.test_roads import member_by_chance
from twinties.blocks import blocks_of, rounds_of, run_often
from twinties.companies import differing
from twinties.errors import InvalidCompany, InvalidNumber, InvalidProgram, TooMany
from twinties.groups import groups_of, marks_of
from twinties.programs import how_many_states, programs_alike, run, undone_program

WRONG_TIMES = [None, True, False, -1, -helper.THIRTY_FIGURES, "1", "", (), (1,), [], [1], {}, {1: 1}]


def blocks_by_definition(kinds, company, program):
    """The blocks, word by word as [59] tells them."""
    named = persons_of(program)
    blocks = []
    for people, base in groups_of(kinds, company):
        marks = [mark for mark in marks_of(kinds, company) if mark[0] in people]
        lot = [
            person for person in people
            if person in named and all(one in named and other in named for one, other, _ in marks
                                       if person in (one, other))
        ]
        if len(lot) >= 2:
            state = []
            for one, other, kind in marks:
                above = (kind - (base or 0)) % kinds
                if one in lot and other in lot and above:
                    state.append((one, other, above))
            blocks.append((lot, state))
    return sorted(blocks)


def some_programs(seed, tries):
    """Companies with programs of some of their people."""
    rng = Random(seed)
    for kinds, members in small_classes():
        for company in rng.sample(members, min(2, len(members))):
            yield kinds, company, []
            if len(company) > 1:
                yield kinds, company, program_by_chance(rng, range(len(company)), rng.randrange(1, 9))
    for web in helper.webs():
        if len(web.members[0]) > 3:
            for _ in range(tries):
                company = rng.choice(web.members)
                people = range(len(company))
                persons = rng.sample(people, rng.randint(2, len(people)))
                yield web.kinds, company, program_by_chance(rng, sorted(persons), rng.randrange(12))


class ExamplesTest(unittest.TestCase):
    def test_blocks(self):
        self.assertEqual(
            [blocks_of(2, [[], [1], [0, 0], [0, 0, 0]], ONE),
             blocks_of(2, [[], [0], [0, 0], [0, 0, 1]], [(0, 1), (1, 2)]), blocks_of(2, PLAIN, [])],
            [[([0, 1, 2], [(0, 1, 1)])], [([0, 1], [])], []],
        )

    def test_rounds(self):
        self.assertEqual(
            [rounds_of(2, ONE), rounds_of(2, [(0, 1), (1, 2), (2, 3)]), rounds_of(3, ONE),
             run_often(2, PLAIN, ONE, 10 ** 29)],
            [6, 6, 15, [[], [1], [0, 0], [0, 0, 0]]],
        )


class BlocksTest(unittest.TestCase):
    def test_blocks_by_the_groups_and_the_marks(self):
        for kinds, company, program in some_programs(59, 20):
            self.assertEqual(blocks_of(kinds, company, program), blocks_by_definition(kinds, company, program))

    def test_a_program_leads_each_block_and_changes_nothing_else(self):
        for kinds, company, program in some_programs(591, 20):
            behind = run(kinds, company, program)
            self.assertEqual(groups_of(kinds, behind), groups_of(kinds, company))
            blocks = blocks_of(kinds, company, program)
            led = [(lot, state_by_definition(kinds, lot, state, program)) for lot, state in blocks]
            self.assertEqual(blocks_of(kinds, behind, program), led)
            for couple in differing(kinds, company, behind):
                self.assertTrue(any(set(couple) <= set(lot) for lot, _ in blocks))

    def test_loose_pairs(self):
        for kind in range(9):
            state = [(0, 1, kind)] if kind else []
            self.assertEqual(blocks_of(9, [[], [kind]], [(0, 1)]), [([0, 1], state)])
        twin = [[], [1], [0, 1], [0, 0, 1], [1, 2, 1, 0]]
        self.assertEqual(blocks_of(3, twin, [(1, 4)]), [([1, 4], [(1, 4, 2)])])
        self.assertEqual(blocks_of(3, twin[:4] + [[1, 0, 1, 0]], [(1, 4)]), [([1, 4], [])])
        # Just one of the pair is named.
        self.assertEqual(blocks_of(3, twin, [(0, 1), (2, 3)]), [])

    def test_shifts_are_told_from_the_base_round(self):
        same = [[2] * person for person in range(3)]
        for kind, shift in ((0, 2), (1, 3), (3, 1)):
            self.assertEqual(blocks_of(4, [[], [kind], [2, 2]], [(0, 1), (1, 2)]), [([0, 1, 2], [(0, 1, shift)])])
        self.assertEqual(blocks_of(4, same, [(0, 2)]), [([0, 2], [])])

    def test_blocks_stand_in_the_order_of_their_lots(self):
        # The groups are ([0, 4, 5, 6], 0) and ([1, 2, 3], 1).
        company = [[], [0], [0, 1], [0, 1, 1], [0, 0, 0, 0], [0, 0, 0, 0, 0], [0] * 6]
        self.assertEqual(groups_of(2, company), [([0, 4, 5, 6], 0), ([1, 2, 3], 1)])
        program = [(5, 6), (1, 2), (2, 3)]
        self.assertEqual(blocks_of(2, company, program), [([1, 2, 3], []), ([5, 6], [])])

    def test_errors(self):
        for function, more in ((blocks_of, ()), (run_often, (3,)), (run_often, (None,))):
            for wrong in WRONG_PROGRAMS + [[(0, 4)], [(0, 1), (3, 39)]]:
                helper.refusal(self, InvalidProgram, wrong, function, 2, PLAIN, wrong, *more)
                helper.refusal(self, InvalidCompany, None, function, 2, None, wrong, *more)
                helper.refusal(self, InvalidNumber, 10, function, 10, None, wrong, *more)


class OftenTest(unittest.TestCase):
    def test_a_program_done_again_and_again(self):
        for kinds, company, program in some_programs(61, 8):
            behind = company
            for times in range(14):
                self.assertEqual(run_often(kinds, company, program, times), behind)
                behind = run(kinds, behind, program)

    def test_very_often(self):
        rng = Random(611)
        for kinds, company, program in some_programs(612, 4):
            rounds = rounds_of(kinds, program)
            for times in (rounds, 10 ** 29, 10 ** 30 - 1, rng.randrange(10 ** 30)):
                told = run_often(kinds, company, program, times)
                self.assertEqual(told, run_often(kinds, company, program, times % rounds))
                if times == rounds:
                    self.assertEqual(told, company)
                if times % rounds < 300:
                    behind = company
                    for _ in range(times % rounds):
                        behind = run(kinds, behind, program)
                    self.assertEqual(told, behind)

    def test_no_turns_and_no_times(self):
        self.assertEqual([run_often(2, PLAIN, [], 5), run_often(2, PLAIN, ONE, 0), run_often(9, [[]], [], 10 ** 29)],
                         [PLAIN, PLAIN, [[]]])

    def test_wrong_times(self):
        for wrong in WRONG_TIMES:
            helper.refusal(self, InvalidNumber, wrong, run_often, 2, PLAIN, ONE, wrong)
            bad = [(0, 4)]
            helper.refusal(self, InvalidProgram, bad, run_often, 2, PLAIN, bad, wrong)
            helper.refusal(self, InvalidCompany, (), run_often, 2, (), ONE, wrong)


class RoundsTest(unittest.TestCase):
    def test_the_least_number_of_times(self):
        rng = Random(62)
        for kinds, persons, tries in ((2, [0, 1, 2], 12), (3, [4, 7], 4), (2, [0, 1, 2, 3], 8), (3, [0, 5, 39], 8),
                                      (9, [0, 1], 4)):
            for _ in range(tries):
                program = program_by_chance(rng, persons, rng.randrange(7))
                rounds = rounds_of(kinds, program)
                if rounds < 100:
                    often = [times for times in range(1, rounds + 1) if programs_alike(kinds, program * times, [])]
                    self.assertEqual(often, [rounds])
        self.assertEqual([rounds_of(2, []), rounds_of(9, []), rounds_of(9, [(3, 38)]), rounds_of(2, [(0, 1)] * 2)],
                         [1, 1, 9, 1])

    def test_what_is_undone_goes_round_alike(self):
        rng = Random(63)
        for kinds, persons in ((2, range(5)), (3, range(4)), (9, range(3))):
            program = program_by_chance(rng, persons, 9)
            self.assertEqual(rounds_of(kinds, undone_program(kinds, program)), rounds_of(kinds, program))

    def test_errors(self):
        for wrong in WRONG_PROGRAMS:
            helper.refusal(self, InvalidProgram, wrong, rounds_of, 2, wrong)
            helper.refusal(self, InvalidNumber, True, rounds_of, True, wrong)
        for kinds in range(2, 10):
            many = min(many for many in range(10) if how_many_states(kinds, many) > 1000)
            with self.assertRaises(TooMany) as caught:
                rounds_of(kinds, [(0, person) for person in range(1, many)])
            self.assertEqual(caught.exception.value, how_many_states(kinds, many))
            self.assertGreater(rounds_of(kinds, [(0, person) for person in range(1, many - 1)]), 1)


class LimitsTest(unittest.TestCase):
    def test_forty_people_and_six_named(self):
        rng = Random(64)
        for kinds in (2, 3, 9):
            company = member_by_chance(rng, kinds, helper.layered([12, 12, 12, 4]))
            for persons in ([0, 1, 2, 3, 4, 5], [0, 3, 14, 20, 30, 39], [34, 35, 36, 37, 38, 39]):
                program = program_by_chance(rng, persons, 60)
                self.assertEqual(blocks_of(kinds, company, program), blocks_by_definition(kinds, company, program))
                behind = company
                for times in range(4):
                    self.assertEqual(run_often(kinds, company, program, times), behind)
                    behind = run(kinds, behind, program)
                far = run_often(kinds, company, program, 10 ** 29)
                self.assertEqual(run_often(kinds, far, undone_program(kinds, program), 10 ** 29), company)

    def test_sixty_turns_go_round(self):
        rng = Random(65)
        for kinds, many in ((2, 6), (3, 6), (2, 8)):
            program = program_by_chance(rng, range(many), 60)
            rounds = rounds_of(kinds, program)
            company = [[0] * person for person in range(many + 1)]
            for low, high in combinations(range(many), 2):
                start = [list(row) for row in company]
                start[high][low] = 1
                self.assertEqual(run_often(kinds, start, program, rounds), start)


if __name__ == "__main__":
    unittest.main()
