"""Programs of turns, and what they make of companies and of the states of lots ([57], [58], [60], [61])."""

from itertools import combinations

from twinties.checks import MOST_PEOPLE, check_company, check_count, check_kinds, is_couple, is_couple_with_kind, is_lot
from twinties.companies import are_alike, company_with, ties_of
from twinties.errors import InvalidLot, InvalidProgram, InvalidWishes, TooMany
from twinties.houses import bits_of
from twinties.sizes import ways_of_group

MOST_STATES = 1000


def check_program(program):
    """Refuse what is no program."""
    if not is_program(program):
        raise InvalidProgram(program)


def check_run(kinds, company, program):
    """Refuse kinds, then a company, then a program of its people."""
    check_company(kinds, company)
    if not is_program(program) or any([high >= len(company) for _, high in program]):
        raise InvalidProgram(program)


def check_state_lot(kinds, lot):
    """Refuse kinds, then a lot of people who need not be of a company."""
    check_kinds(kinds)
    if not is_lot(MOST_PEOPLE, lot):
        raise InvalidLot(lot)


def check_states(kinds, people):
    """Refuse lots of some people if they have too many states."""
    many = ways_of_group(kinds, len(people))
    if many > MOST_STATES:
        raise TooMany(many)


def is_state(kinds, lot, value):
    """Whether a value is a state of a lot."""
    if not isinstance(value, list) or not all([is_couple_with_kind(kinds, MOST_PEOPLE, told) for told in value]):
        return False
    people = [person for low, high, _ in value for person in (low, high)]
    if len(set(people)) < len(people) or not all([person in lot for person in people]):
        return False
    return all([shift > 0 for _, _, shift in value]) and value == sorted(value)


def persons_named(program):
    """The list, ascending, of the persons whom a program names."""
    return sorted({person for turn in program for person in turn})


def states_among(kinds, people):
    """All states of a lot, in order."""
    states = [[]]
    for place, low in enumerate(people):
        for high in people[place + 1:]:
            others = states_among(kinds, [person for person in people[place + 1:] if person != high])
            for shift in range(1, kinds):
                states.extend([[(low, high, shift)] + state for state in others])
    return states


def bits_of_turns(program):
    """The turns of a program, each as the bits of both persons."""
    return [bits_of(turn) for turn in program]


def turns_within(turns, lot):
    """Those of some turns, told by their bits, that are of couples of a lot."""
    whole = bits_of(lot)
    return [turn for turn in turns if turn & whole == turn]


def shifts_of(state):
    """The shifts of a state by the bits of their couples."""
    return {bits_of((low, high)): shift for low, high, shift in state}


def shifts_behind(kinds, shifts, turns):
    """The shifts that turns within a lot make of those of one of its states."""
    behind = dict(shifts)
    taken = sum(list(behind))
    for turn in turns:
        if turn in behind:
            behind[turn] += 1
            if behind[turn] == kinds:
                del behind[turn]
                taken ^= turn
        elif taken & turn == 0:
            behind[turn] = 1
            taken |= turn
    return behind


def state_with(shifts, lot):
    """The state of a lot that has such shifts."""
    couples = [(low, high, bits_of((low, high))) for low, high in combinations(lot, 2)]
    return [(low, high, shifts[turn]) for low, high, turn in couples if turn in shifts]


def shuffle_among(kinds, lot, turns):
    """For each state of a lot, in order, the number of the state to which turns within the lot lead it."""
    states = [shifts_of(state) for state in states_among(kinds, lot)]
    number_of = {tuple(sorted(shifts.items())): number for number, shifts in enumerate(states)}
    return [number_of[tuple(sorted(shifts_behind(kinds, shifts, turns).items()))] for shifts in states]


def cycles_of(shuffle):
    """The rounds in which a shuffle leads one number to the next, each from its least number on."""
    cycles = []
    met = [False] * len(shuffle)
    for start in range(len(shuffle)):
        if not met[start]:
            cycle = []
            place = start
            while not met[place]:
                met[place] = True
                cycle.append(place)
                place = shuffle[place]
            cycles.append(cycle)
    return cycles


def lots_by_size(people):
    """All lots of at least two of some people, those of fewer first, then in order."""
    return [list(lot) for many in range(2, len(people) + 1) for lot in combinations(people, many)]


def first_parting_state(kinds, one, other):
    """The tuple of the first lot, and of its first state, that two programs lead to unlike ones; None without one."""
    people = persons_named(one + other)
    check_states(kinds, people)
    turns, others = bits_of_turns(one), bits_of_turns(other)
    for lot in lots_by_size(people):
        firsts, seconds = turns_within(turns, lot), turns_within(others, lot)
        if firsts != seconds:
            for state in states_among(kinds, lot):
                shifts = shifts_of(state)
                if shifts_behind(kinds, shifts, firsts) != shifts_behind(kinds, shifts, seconds):
                    return lot, state
    return None


def check_programs(kinds, one, other):
    """Refuse kinds, then either program."""
    check_kinds(kinds)
    check_program(one)
    check_program(other)


def is_program(value):
    """Whether a value is a list of turns."""
    return isinstance(value, list) and all([is_couple(MOST_PEOPLE, turn) for turn in value])


def run(kinds, company, program):
    """The company that a program makes of one."""
    check_run(kinds, company, program)
    ties = ties_of(company)
    for low, high in program:
        if are_alike(ties, low, high):
            kind = (ties[low][high] + 1) % kinds
            ties[low][high] = kind
            ties[high][low] = kind
    return company_with(ties)


def states_of(kinds, lot):
    """The list, in order, of all states of a lot."""
    check_state_lot(kinds, lot)
    check_states(kinds, lot)
    return states_among(kinds, lot)


def how_many_states(kinds, many):
    """How many states a lot of so many persons has."""
    check_kinds(kinds)
    check_count(many)
    return ways_of_group(kinds, many)


def state_after(kinds, lot, state, program):
    """The state to which a program leads one of a lot."""
    check_state_lot(kinds, lot)
    if not is_state(kinds, lot, state):
        raise InvalidWishes(state)
    check_program(program)
    turns = turns_within(bits_of_turns(program), lot)
    return state_with(shifts_behind(kinds, shifts_of(state), turns), lot)


def programs_alike(kinds, one, other):
    """Whether two programs make the same of all companies that have all persons whom they name."""
    check_programs(kinds, one, other)
    return first_parting_state(kinds, one, other) is None


def parting_state(kinds, one, other):
    """The tuple of the first lot and state that two programs lead to unlike states, None if they are alike."""
    check_programs(kinds, one, other)
    return first_parting_state(kinds, one, other)


def parting_company(kinds, one, other):
    """A company of which two programs make unlike ones, None if they are alike."""
    check_programs(kinds, one, other)
    parting = first_parting_state(kinds, one, other)
    if parting is None:
        return None
    lot, state = parting
    last = persons_named(one + other)[-1] + 1
    company = [[0] * person for person in range(last)]
    company.append([1 if person in lot else 0 for person in range(last)])
    for low, high, shift in state:
        company[high][low] = shift
    return company


def undone_program(kinds, program):
    """The program that takes back what a program does."""
    check_kinds(kinds)
    check_program(program)
    return [turn for turn in program[::-1] for _ in range(kinds - 1)]
