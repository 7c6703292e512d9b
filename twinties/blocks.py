"""Blocks, by which it is told what a program does in a company, also again and again ([59], [61])."""

from itertools import combinations
from math import lcm

from twinties.checks import check_count, check_kinds
from twinties.letdown import groups_let_down, marks_within
from twinties.programs import bits_of_turns, check_program, check_run, check_states, cycles_of, lots_by_size
from twinties.programs import persons_named, shifts_behind, shifts_of, shuffle_among, state_with, turns_within


def block_within(kinds, company, group, named):
    """The persons of a group who are of a block, if they are two at least, the kind of their base, and their state."""
    people, base = group
    ground = 0 if base is None else base
    shifts = [(low, high, (kind - ground) % kinds) for low, high, kind in marks_within(company, group)]
    # Who has a mark with somebody whom the program does not name can never be turned.
    held = [person for low, high, _ in shifts for person in (low, high) if low not in named or high not in named]
    lot = [person for person in people if person in named and person not in held]
    return lot, ground, [told for told in shifts if told[0] in lot and told[2] > 0]


def blocks_in(kinds, company, program):
    """The tuples `(lot, ground, state)` of all blocks, in order; `ground` is the kind of the base."""
    named = persons_named(program)
    blocks = [block_within(kinds, company, group, named) for group in groups_let_down(company)]
    return sorted([block for block in blocks if len(block[0]) > 1], key=lambda block: block[0])


def state_often(kinds, lot, state, turns, times):
    """The state to which turns within a lot lead one when they are done so often."""
    start = shifts_of(state)
    now = start
    passed = 0
    left = times
    while passed < left:
        now = shifts_behind(kinds, now, turns)
        passed += 1
        # Shuffles lead round: from here on all comes again.
        if now == start:
            left = left % passed
            passed = 0
    return state_with(now, lot)


def blocks_of(kinds, company, program):
    """The list, in order, of the tuples `(lot, state)` of all blocks of a program in a company."""
    check_run(kinds, company, program)
    return [(lot, state) for lot, _, state in blocks_in(kinds, company, program)]


def rounds_of(kinds, program):
    """After how many times, from 1 on, a program is alike with the empty one."""
    check_kinds(kinds)
    check_program(program)
    people = persons_named(program)
    check_states(kinds, people)
    turns = bits_of_turns(program)
    rounds = 1
    for lot in lots_by_size(people):
        for cycle in cycles_of(shuffle_among(kinds, lot, turns_within(turns, lot))):
            rounds = lcm(rounds, len(cycle))
    return rounds


def run_often(kinds, company, program, times):
    """What comes of a company if a program is done so often."""
    check_run(kinds, company, program)
    check_count(times)
    turns = bits_of_turns(program)
    behind = [list(row) for row in company]
    for lot, ground, state in blocks_in(kinds, company, program):
        for low, high in combinations(lot, 2):
            behind[high][low] = ground
        for low, high, shift in state_often(kinds, lot, state, turns_within(turns, lot), times):
            behind[high][low] = (ground + shift) % kinds
    return behind
