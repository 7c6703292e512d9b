"""Runs of a league, and what all orders of them make ([67] to [69])."""

from itertools import accumulate, combinations
from math import factorial

from twinties.checks import check_below, is_couple
from twinties.errors import InvalidCouple
from twinties.leagues import beaten_among, beaten_in, check_league, rows_in


def check_league_couple(league, couple):
    """Refuse a league, then a couple of it."""
    check_league(league)
    if not is_couple(len(league), couple):
        raise InvalidCouple(couple)


def are_in_one_run(rows, couple):
    """Whether both of a couple are in one run."""
    return any([couple[0] in row and couple[1] in row for row in rows])


def size_by_rows(rows):
    """In how many orders some runs can stand."""
    size = 1
    for row in rows:
        size *= factorial(len(row))
    return size


def with_person_more(by_turns, places):
    """How many orders are 0, 1, 2 and so on turns away when one person more comes to any of so many places.

    This is the product with 1 + q + q ** 2 and so on, told by sums of neighbours.
    """
    sums = [0] * places + list(accumulate(by_turns + [0] * (places - 1)))
    return [sums[place + places] - sums[place] for place in range(len(by_turns) + places - 1)]


def mates_ahead(rows):
    """For each person who is in a run, in order, those of the same run who have lesser numbers."""
    found = {}
    for row in rows:
        for person in row:
            found[person] = [mate for mate in row if mate < person]
    return {person: found[person] for person in sorted(found)}


def league_by_number(league, rows, number):
    """The league of the class ahead of which there are so many.

    Each person comes to any place in the row of the mates ahead: the more of them are beaten, the later the league.
    """
    ahead = mates_ahead(rows)
    beaten_mates = {}
    left = number
    for person in list(ahead)[::-1]:
        left, beaten_mates[person] = divmod(left, len(ahead[person]) + 1)
    told = [list(row) for row in league]
    for row in rows:
        order = []
        for person in sorted(row):
            place = len(order) - beaten_mates[person]
            for mate in order[:place]:
                told[person][mate] = 0
            for mate in order[place:]:
                told[person][mate] = 1
            order.insert(place, person)
    return told


def runs(league):
    """The list, in the order of their least people, of all runs."""
    check_league(league)
    return rows_in(beaten_in(league))


def league_class_size(league):
    """How many leagues there are in the class of a league."""
    check_league(league)
    return size_by_rows(rows_in(beaten_in(league)))


def leagues_by_turns(league):
    """The list of how many leagues of the class are 0, 1, 2 and so on turns away."""
    check_league(league)
    by_turns = [1]
    for row in rows_in(beaten_in(league)):
        for places in range(2, len(row) + 1):
            by_turns = with_person_more(by_turns, places)
    return by_turns


def is_sure_result(league, couple):
    """Whether the result of a couple is the same in all leagues of the class."""
    check_league_couple(league, couple)
    return not are_in_one_run(rows_in(beaten_in(league)), couple)


def sure_people(league, couple):
    """The first three people, or else four, or five, among whom the result of a couple is sure, None if it is not."""
    check_league_couple(league, couple)
    beaten = beaten_in(league)
    if are_in_one_run(rows_in(beaten), couple):
        return None
    others = [person for person in range(len(league)) if person not in couple]
    for many in range(1, 4):
        for more in combinations(others, many):
            lot = sorted(couple + more)
            if not are_in_one_run(rows_in(beaten_among(beaten, lot)), couple):
                return lot
    return None


def league_at(league, number):
    """The league of the class ahead of which, in Python's order, there are so many of it."""
    check_league(league)
    rows = rows_in(beaten_in(league))
    check_below(number, size_by_rows(rows))
    return league_by_number(league, rows, number)


def league_number(league):
    """How many leagues of its class are ahead of a league, in Python's order."""
    check_league(league)
    ahead = mates_ahead(rows_in(beaten_in(league)))
    number = 0
    for person in ahead:
        number = number * (len(ahead[person]) + 1) + sum([league[person][mate] for mate in ahead[person]])
    return number
