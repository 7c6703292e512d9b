"""What programs can do to all states at once ([62], [63])."""

from math import comb, factorial

from twinties.checks import check_below, check_kinds, is_order
from twinties.errors import InvalidProgram, InvalidWishes
from twinties.programs import bits_of_turns, check_program, check_state_lot, check_states, cycles_of, is_program
from twinties.programs import lots_by_size, shuffle_among, turns_within
from twinties.sizes import power, ways_of_group

MOST_TOLD = 4
MOST_COUNTED = 5
# The couples of three persons, in order.
TURNS = ((0, 1), (0, 2), (1, 2))


def is_odd(shuffle):
    """Whether an odd number of exchanges of two numbers makes a shuffle."""
    return (len(shuffle) - len(cycles_of(shuffle))) & 1 == 1


def fits(kinds, lot, told, strides):
    """Whether a list that has each number once is one that a program can make of the states of a lot.

    `strides` are those of all couples, by the couple.
    """
    if len(lot) == 2:
        return all([place == (number + told[0]) % kinds for number, place in enumerate(told)])
    if len(lot) == 3 and kinds % 2 == 0:
        low, middle, high = lot
        all_strides = strides[(low, middle)] + strides[(low, high)] + strides[(middle, high)]
        return is_odd(told) == (all_strides & 1 == 1)
    return not is_odd(told)


def is_family(kinds, many, value):
    """Whether a value is the family of the shuffles of some program, for so many persons."""
    lots = lots_by_size(list(range(many)))
    if not isinstance(value, list) or len(value) != len(lots):
        return False
    if not all([is_order(ways_of_group(kinds, len(lot)), told) for lot, told in zip(lots, value)]):
        return False
    strides = {tuple(lot): told[0] for lot, told in zip(lots, value) if len(lot) == 2}
    return all([fits(kinds, lot, told, strides) for lot, told in zip(lots, value)])


def exchanges(shuffle):
    """The numbers, each to be exchanged with 0, one behind the other, that make a shuffle."""
    numbers = []
    for cycle in cycles_of(shuffle):
        if cycle[0] == 0:
            numbers.extend(cycle[1:])
        elif len(cycle) > 1:
            numbers.extend(cycle + cycle[:1])
    return numbers


def turn_and_shift(kinds, number):
    """The turn that leads the empty state of three persons to the one with a number, and how often."""
    return TURNS[(number - 1) // (kinds - 1)], (number - 1) % (kinds - 1) + 1


def round_of_three(kinds, first, second):
    """A program that leads the state 0 to one, this one to another, and that to 0, and turns nothing else.

    The two are of unlike couples. Done ahead of what they do, what undoes them leaves all other states as they are,
    and each turn is done as often as there are kinds, or never.
    """
    turn, shift = turn_and_shift(kinds, first)
    other, further = turn_and_shift(kinds, second)
    return [other] * (kinds - further) + [turn] * (kinds - shift) + [other] * further + [turn] * shift


def number_apart(kinds, number):
    """The number of a state of three persons with another couple than a told one."""
    return number + kinds - 1 if number < kinds else number - kinds + 1


def even_program(kinds, shuffle):
    """A program of three persons that makes an even shuffle, and turns nothing in couples by themselves."""
    numbers = exchanges(shuffle)
    program = []
    for first, second in zip(numbers[::2], numbers[1::2]):
        if turn_and_shift(kinds, first)[0] != turn_and_shift(kinds, second)[0]:
            program.extend(round_of_three(kinds, first, second))
        elif first != second:
            # Both are exchanged with a third one between: twice, which is nothing.
            apart = number_apart(kinds, first)
            program.extend(round_of_three(kinds, first, apart) + round_of_three(kinds, apart, second))
    return program


def next_element(element, number):
    """What a turn makes of what programs for two kinds do to three persons.

    This is told by the states that have come to the places of the four states, and by whether each of the three turns
    has been done an odd number of times.
    """
    behind = list(element)
    behind[0] = element[number]
    behind[number] = element[0]
    behind[number + 3] = 1 - element[number + 3]
    return tuple(behind)


def shuffle_of(kinds, lot, program):
    """For each state of a lot, in order, the number of the state to which a program leads it."""
    check_state_lot(kinds, lot)
    check_program(program)
    check_states(kinds, lot)
    return shuffle_among(kinds, lot, turns_within(bits_of_turns(program), lot))


def is_told(kinds, many, value):
    """Whether a value is the family of the shuffles of some program."""
    check_kinds(kinds)
    check_below(many, MOST_TOLD + 1)
    return is_family(kinds, many, value)


def made_program(kinds, family):
    """A program of three persons that has a family of shuffles."""
    check_kinds(kinds)
    if not is_family(kinds, 3, family):
        raise InvalidWishes(family)
    strides = [turn for turn, told in zip(TURNS, family) for _ in range(told[0])]
    ahead = shuffle_among(kinds, [0, 1, 2], bits_of_turns(strides))
    left = [0] * len(ahead)
    for place, wanted in zip(ahead, family[3]):
        left[place] = wanted
    return strides + even_program(kinds, left)


def how_many_programs(kinds, many):
    """How many programs there are that name no persons but the first so many, alike ones taken as one."""
    check_kinds(kinds)
    check_below(many, MOST_COUNTED + 1)
    found = power(kinds, comb(many, 2))
    for size in range(3, many + 1):
        found *= power(factorial(ways_of_group(kinds, size)) // 2, comb(many, size))
    return found


def shortest_program(program):
    """The first of the shortest programs that are alike with one of three persons for two kinds."""
    if not is_program(program) or any([turn not in TURNS for turn in program]):
        raise InvalidProgram(program)
    start = (0, 1, 2, 3, 0, 0, 0)
    wanted = start
    for turn in program:
        wanted = next_element(wanted, TURNS.index(turn) + 1)
    found = {start: []}
    layer = [start]
    while wanted not in found:
        further = []
        for element in layer:
            for number, turn in enumerate(TURNS):
                behind = next_element(element, number + 1)
                if behind not in found:
                    found[behind] = found[element] + [turn]
                    further.append(behind)
        layer = further
    return found[wanted]
