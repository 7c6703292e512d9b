"""Houses: lots to all of whom each other person has one tie; and the tree that they make ([8] to [12])."""

from itertools import combinations

from twinties.checks import check_company, check_lot
from twinties.companies import ties_of
from twinties.errors import TooMany

MOST_HOUSES = 2000


def first_parting(ties, lot):
    """The first person outside of a lot who has unlike ties to two of it, None if it is a house."""
    for person, row in enumerate(ties):
        if person not in lot and any([row[member] != row[lot[0]] for member in lot]):
            return person
    return None


def tellers_of(ties):
    """For each two persons the thirds who tell them apart, having unlike ties to them."""
    return [[tellers_between(ties, one, other) for other in range(len(ties))] for one in range(len(ties))]


def tellers_between(ties, one, other):
    """The thirds who have unlike ties to two persons."""
    return [
        third for third, row in enumerate(ties)
        if row[one] != row[other] and third != one and third != other
    ]


def grown(tellers, lot, enough):
    """The least house of a lot; it stops growing when it has enough people.

    Who tells anybody of a house from its first person belongs to it, and nobody else has to.
    """
    held = {person: True for person in lot}
    waiting = list(lot)
    while waiting and len(held) < enough:
        person = waiting.pop()
        for third in tellers[lot[0]][person]:
            if third not in held:
                held[third] = True
                waiting.append(third)
    return sorted(held)


def linked_parts(ties, people, kind):
    """The lots of people who hang together by ties that are not of a kind, in order."""
    parts = []
    left = list(people)
    while left:
        part = [left[0]]
        waiting = [left[0]]
        left = left[1:]
        while waiting:
            person = waiting.pop()
            reached = [other for other in left if ties[person][other] != kind]
            left = [other for other in left if ties[person][other] == kind]
            part.extend(reached)
            waiting.extend(reached)
        parts.append(sorted(part))
    return parts


def prime_parts(tellers, people):
    """The lots of the parts of a prime knot, in order: people are in one part if they have a lesser house."""
    parts = []
    left = list(people)
    enough = len(people)
    while left:
        first = left[0]
        part = [first] + [
            other for other in left[1:] if len(grown(tellers, [first, other], enough)) < enough
        ]
        left = [person for person in left if person not in part]
        parts.append(part)
    return parts


def kind_and_parts(ties, tellers, people):
    """The kind of a knot, None if it is prime, and the lots of its parts, in order."""
    first = people[0]
    # A knot of a kind has ties of it from each person to somebody: other kinds need not be tried.
    for kind in sorted({ties[first][other] for other in people[1:]}):
        parts = linked_parts(ties, people, kind)
        if len(parts) > 1:
            return kind, parts
    return None, prime_parts(tellers, people)


def tree_of_houses(company):
    """All knots, as tuples of their people, their kind and their parts, in the order of their people."""
    ties = ties_of(company)
    tellers = tellers_of(ties)
    tree = []
    waiting = [list(range(len(company)))]
    while waiting:
        people = waiting.pop()
        if len(people) > 1:
            kind, parts = kind_and_parts(ties, tellers, people)
            tree.append((people, kind, parts))
            waiting.extend([list(part) for part in parts])
    return sorted(tree, key=lambda knot: knot[0])


def number_of_houses(company, tree):
    """How many houses a company with such a tree has: strong ones, and some parts of a knot of a kind together."""
    together = [(1 << len(parts)) - 2 - len(parts) for _, kind, parts in tree if kind is not None]
    return len(company) + len(tree) + sum(together)


def houses_of_some_parts(parts):
    """What at least two parts of a knot of a kind, but not all, have together."""
    houses = []
    for many in range(2, len(parts)):
        for chosen in combinations(parts, many):
            houses.append(sorted([person for part in chosen for person in part]))
    return houses


def is_house(kinds, company, lot):
    """Whether a lot is a house of a company."""
    check_company(kinds, company)
    check_lot(company, lot)
    return first_parting(ties_of(company), lot) is None


def parting_person(kinds, company, lot):
    """The first person outside who has unlike ties to two of a lot, None if it is a house."""
    check_company(kinds, company)
    check_lot(company, lot)
    return first_parting(ties_of(company), lot)


def least_house(kinds, company, lot):
    """The house that lies within all houses that hold a lot."""
    check_company(kinds, company)
    check_lot(company, lot)
    return grown(tellers_of(ties_of(company)), lot, len(company))


def how_many_houses(kinds, company):
    """How many houses a company has."""
    check_company(kinds, company)
    return number_of_houses(company, tree_of_houses(company))


def all_houses(kinds, company):
    """The list of all houses of a company, in order."""
    check_company(kinds, company)
    tree = tree_of_houses(company)
    many = number_of_houses(company, tree)
    if many > MOST_HOUSES:
        raise TooMany(many)
    houses = [[person] for person in range(len(company))]
    for people, kind, parts in tree:
        houses.append(people)
        if kind is not None:
            houses.extend(houses_of_some_parts(parts))
    return sorted(houses)
