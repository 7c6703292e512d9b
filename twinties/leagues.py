"""Leagues: who beat whom, and turning the results of those who stand alike ([64] to [66])."""

from itertools import combinations

from twinties.checks import is_below, is_company_of, is_couple
from twinties.errors import InvalidCouple, InvalidLeague, InvalidPerson, Unlike
from twinties.houses import bits_of


def check_league(league):
    """Refuse what is no league."""
    if not is_league(league):
        raise InvalidLeague(league)


def check_leagues(one, other):
    """Refuse either league, then two of unlike numbers of people."""
    check_league(one)
    check_league(other)
    if len(one) != len(other):
        raise Unlike(other)


def beaten_in(league):
    """The bits of those whom each person beat, by the person."""
    beaten = {person: 0 for person in range(len(league))}
    for person, row in enumerate(league):
        for before, won in enumerate(row):
            if won == 1:
                beaten[person] |= 1 << before
            else:
                beaten[before] |= 1 << person
    return beaten


def beaten_among(beaten, lot):
    """The same for the league among a lot."""
    bits = bits_of(lot)
    return {person: beaten[person] & bits for person in lot}


def next_in_rows(beaten):
    """Who comes next behind each person in a run.

    Whom a person beat, that is the next one and all whom this one beat, and nobody else.
    """
    with_these = {bits | 1 << person: person for person, bits in beaten.items()}
    return {person: with_these[bits] for person, bits in beaten.items() if bits in with_these}


def rows_in(beaten):
    """All runs, in the order of their least people."""
    behind = next_in_rows(beaten)
    led = {person: True for person in behind.values()}
    rows = []
    for person in behind:
        if person not in led:
            row = [person]
            while row[-1] in behind:
                row.append(behind[row[-1]])
            rows.append(row)
    return sorted(rows, key=min)


def sure_results(beaten, rows):
    """The bits of those whom each person beat and with whom this one is in no run."""
    sure = dict(beaten)
    for row in rows:
        others = ~bits_of(row)
        for person in row:
            sure[person] &= others
    return sure


def are_of_one_class(beaten, others):
    """Whether two leagues, told by who beat whom, are joined: they have the same runs, in whatever order."""
    rows, other_rows = rows_in(beaten), rows_in(others)
    if [sorted(row) for row in rows] != [sorted(row) for row in other_rows]:
        return False
    return sure_results(beaten, rows) == sure_results(others, other_rows)


def first_parting_lot(beaten, others, many):
    """The first lot of so many people among which two leagues are not joined, None without one."""
    joined = {}
    for people in combinations(range(len(beaten)), many):
        lot = list(people)
        results = tuple([
            (beaten[low] >> high & 1, others[low] >> high & 1) for low, high in combinations(lot, 2)
        ])
        if results not in joined:
            joined[results] = are_of_one_class(beaten_among(beaten, lot), beaten_among(others, lot))
        if not joined[results]:
            return lot
    return None


def results_unlike(one, other):
    """How many results are unlike in two leagues."""
    return sum([1 for row, told in zip(one, other) for won, also in zip(row, told) if won != also])


def couples_to_turn_now(rows, others):
    """The couples of neighbours in runs whose result is unlike in another league."""
    return [
        (min(winner, loser), max(winner, loser)) for row in rows for winner, loser in zip(row, row[1:])
        if others[loser] >> winner & 1
    ]


def turn_in_rows(rows, couple):
    """Turn the result of two neighbours in a run."""
    for row in rows:
        if couple[0] in row:
            place = min(row.index(couple[0]), row.index(couple[1]))
            row[place], row[place + 1] = row[place + 1], row[place]


def turn_if_alike(beaten, couple):
    """Turn the result of a couple; whether this could be done."""
    low, high = couple
    winner, loser = (low, high) if beaten[low] >> high & 1 else (high, low)
    if beaten[winner] != beaten[loser] | 1 << loser:
        return False
    beaten[winner] = beaten[loser]
    beaten[loser] |= 1 << winner
    return True


def is_league(value):
    """Whether a value is a league: it is made like a company of two kinds."""
    return is_company_of(2, value)


def beats(league, person, loser):
    """Whether a person beat another one."""
    check_league(league)
    if not is_below(person, len(league)):
        raise InvalidPerson(person)
    if not is_below(loser, len(league)) or loser == person:
        raise InvalidPerson(loser)
    return league[person][loser] == 1 if loser < person else league[loser][person] == 0


def league_couples(league):
    """The list, in order, of the couples who stand alike."""
    check_league(league)
    behind = next_in_rows(beaten_in(league))
    return sorted([(min(person, after), max(person, after)) for person, after in behind.items()])


def turned(league, couple):
    """The league with the turn of a couple."""
    check_league(league)
    if not is_couple(len(league), couple) or not turn_if_alike(beaten_in(league), couple):
        raise InvalidCouple(couple)
    low, high = couple
    behind = [list(row) for row in league]
    behind[high][low] = 1 - behind[high][low]
    return behind


def are_joined_leagues(one, other):
    """Whether a row of turns leads from one league to another."""
    check_leagues(one, other)
    return are_of_one_class(beaten_in(one), beaten_in(other))


def parting_people(one, other):
    """The first lot of three people, or else of four, among which two leagues are not joined, None if they are."""
    check_leagues(one, other)
    beaten, others = beaten_in(one), beaten_in(other)
    if are_of_one_class(beaten, others):
        return None
    three = first_parting_lot(beaten, others, 3)
    return first_parting_lot(beaten, others, 4) if three is None else three


def league_turns(one, other):
    """How many turns lead from one league to another at least, None if they are not joined."""
    check_leagues(one, other)
    if not are_of_one_class(beaten_in(one), beaten_in(other)):
        return None
    return results_unlike(one, other)


def league_road(one, other):
    """The list of the couples whose turns lead from one league to another, always the first that can be, or None."""
    check_leagues(one, other)
    beaten, others = beaten_in(one), beaten_in(other)
    if not are_of_one_class(beaten, others):
        return None
    # Whoever stands alike is neighbours in a run, whatever has been turned: nothing else need be looked at.
    rows = rows_in(beaten)
    road = []
    ready = couples_to_turn_now(rows, others)
    while ready:
        road.append(min(ready))
        turn_in_rows(rows, road[-1])
        ready = couples_to_turn_now(rows, others)
    return road


def is_league_road(one, other, value):
    """Whether a value is a list of couples whose turns, one behind the other, lead from one league to another."""
    check_leagues(one, other)
    if not isinstance(value, list) or not all([is_couple(len(one), couple) for couple in value]):
        return False
    beaten = beaten_in(one)
    for couple in value:
        if not turn_if_alike(beaten, couple):
            return False
    return beaten == beaten_in(other)
