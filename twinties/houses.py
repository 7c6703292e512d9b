"""Houses: lots to all of whom each other person has one tie; and the tree that they make ([8] to [12])."""

from itertools import combinations

from twinties.checks import check_company, check_lot
from twinties.companies import ties_of
from twinties.errors import TooMany

MOST_HOUSES = 2000


def first_parting(ties, lot):
    """The first person outside of a lot who has unlike ties to two of it, None if it is a house."""
    for person, row in enumerate(ties):
        if person not in lot and any([row[member] != row[lot[0]] for member in lot]):
            return person
    return None


def nets_of(company):
    """For each kind that stands there a list: the bits of those to whom each person has this tie.

    Many people are kept in one number, a bit for each of them: so all of them are looked at in one step.
    """
    nets = {}
    for other, row in enumerate(company):
        for one, kind in enumerate(row):
            if kind not in nets:
                nets[kind] = [0] * len(company)
            net = nets[kind]
            net[one] |= 1 << other
            net[other] |= 1 << one
    return nets


def bits_of(people):
    """The number that has the bits of some people."""
    bits = 0
    for person in people:
        bits |= 1 << person
    return bits


def people_of(bits, people):
    """The list of those of some people whose bits a number has, none but these."""
    # Most lots at a knot are one person.
    if bits & (bits - 1) == 0:
        return [bits.bit_length() - 1]
    return [person for person in people if bits >> person & 1]


def grown(nets, held, whole):
    """The bits of the least house that holds some people, who all are in a house.

    Who tells anybody of a house from its last person belongs to it, and nobody else has to.
    """
    last = held.bit_length() - 1
    waiting = held ^ (1 << last)
    while waiting and held != whole:
        person = waiting.bit_length() - 1
        waiting ^= 1 << person
        tellers = 0
        for net in nets.values():
            tellers |= net[last] ^ net[person]
        # The two themselves seem to be tellers if they have a tie, but they are held.
        waiting |= tellers & ~held
        held |= tellers
    return held


def linked_parts(net, whole):
    """The bits of those people of a house who hang together by ties that are not of the kind of a net."""
    parts = []
    left = whole
    while left:
        waiting = 1 << (left.bit_length() - 1)
        part = waiting
        left ^= part
        while waiting and left:
            person = waiting.bit_length() - 1
            reached = left & ~net[person]
            waiting = (waiting ^ (1 << person)) | reached
            part |= reached
            left ^= reached
        parts.append(part)
    return parts


def houses_without(nets, whole, person):
    """The bits of the greatest houses within a house that do not hold a person of it.

    A lot is parted by whoever outside of it has unlike ties to its people, until nobody has. Each lot comes with the
    bits of those outside who have not been asked.
    """
    houses = []
    waiting = [(whole ^ (1 << person), 1 << person)]
    while waiting:
        lot, outside = waiting.pop()
        pieces = [lot]
        while outside and len(pieces) == 1 and lot & (lot - 1):
            teller = outside.bit_length() - 1
            outside ^= 1 << teller
            pieces = [lot & net[teller] for net in nets.values() if lot & net[teller]]
        if len(pieces) == 1:
            houses.append(lot)
        else:
            waiting.extend([(piece, outside | (lot ^ piece)) for piece in pieces])
    return houses


def prime_parts(nets, whole):
    """The bits of the parts of a prime knot.

    A greatest house without the last person is a part, unless both are within a lesser house than the knot: then it
    is within the part of that person.
    """
    last = whole.bit_length() - 1
    own = 1 << last
    parts = []
    for house in houses_without(nets, whole, last):
        if house & own == 0:
            held = grown(nets, (1 << last) | (1 << (house.bit_length() - 1)), whole)
            if held == whole:
                parts.append(house)
            else:
                own |= held | house
    return parts + [own]


def kind_and_parts(nets, whole):
    """The kind of a knot, None if it is prime, and the bits of its parts."""
    last = whole.bit_length() - 1
    for kind, net in nets.items():
        # A knot of a kind has ties of it from each person to somebody: other kinds need not be tried.
        if net[last] & whole:
            parts = linked_parts(net, whole)
            if len(parts) > 1:
                return kind, parts
    return None, prime_parts(nets, whole)


def tree_of_houses(company):
    """All knots, as tuples of their people, their kind and their parts, in the order of their people."""
    nets = nets_of(company)
    tree = []
    waiting = [((1 << len(company)) - 1, list(range(len(company))))]
    while waiting:
        whole, people = waiting.pop()
        if len(people) > 1:
            kind, found = kind_and_parts(nets, whole)
            parts = [(bits, people_of(bits, people)) for bits in found]
            tree.append((people, kind, sorted([part for _, part in parts])))
            waiting.extend([(bits, list(part)) for bits, part in parts])
    return sorted(tree, key=lambda knot: knot[0])


def number_of_houses(company, tree):
    """How many houses a company with such a tree has: strong ones, and some parts of a knot of a kind together."""
    together = [(1 << len(parts)) - 2 - len(parts) for _, kind, parts in tree if kind is not None]
    return len(company) + len(tree) + sum(together)


def houses_of_some_parts(parts):
    """What at least two parts of a knot of a kind, but not all, have together."""
    houses = []
    for many in range(2, len(parts)):
        for chosen in combinations(parts, many):
            houses.append(sorted([person for part in chosen for person in part]))
    return houses


def is_house(kinds, company, lot):
    """Whether a lot is a house of a company."""
    check_company(kinds, company)
    check_lot(company, lot)
    return first_parting(ties_of(company), lot) is None


def parting_person(kinds, company, lot):
    """The first person outside who has unlike ties to two of a lot, None if it is a house."""
    check_company(kinds, company)
    check_lot(company, lot)
    return first_parting(ties_of(company), lot)


def least_house(kinds, company, lot):
    """The house that lies within all houses that hold a lot."""
    check_company(kinds, company)
    check_lot(company, lot)
    people = list(range(len(company)))
    return people_of(grown(nets_of(company), bits_of(lot), bits_of(people)), people)


def how_many_houses(kinds, company):
    """How many houses a company has."""
    check_company(kinds, company)
    return number_of_houses(company, tree_of_houses(company))


def all_houses(kinds, company):
    """The list of all houses of a company, in order."""
    check_company(kinds, company)
    tree = tree_of_houses(company)
    many = number_of_houses(company, tree)
    if many > MOST_HOUSES:
        raise TooMany(many)
    houses = [[person] for person in range(len(company))]
    for people, kind, parts in tree:
        houses.append(people)
        if kind is not None:
            houses.extend(houses_of_some_parts(parts))
    return sorted(houses)
