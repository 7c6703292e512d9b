"""Shortest roads between joined companies, and what lies between them ([26] to [28], [30])."""

from math import factorial

from twinties.checks import check_companies, check_company, is_company_of
from twinties.companies import are_alike, couples_unlike, followed, ties_of
from twinties.letdown import groups_let_down, is_of_class, marks_within
from twinties.zigzags import ring_number, zigzag_number


def couples_to_turn(one, other):
    """The couples whose ties differ, in order, None if the companies are not joined."""
    if not is_of_class(one, groups_let_down(one), other):
        return None
    return couples_unlike(one, other)


def share_a_person(couple, second):
    """Whether two couples have a person in common."""
    return couple[0] in second or couple[1] in second


def bars_among(ties, couples):
    """All tuples, in order, of a couple that bars another one, and of that one.

    Who stands alike ahead of all deeds is turned first: the two couples never stand alike both.
    """
    alike = {(low, high): are_alike(ties, low, high) for low, high in couples}
    return [
        (first, second) for first in couples if alike[first]
        for second in couples if not alike[second] and share_a_person(first, second)
    ]


def first_order(couples, bars):
    """The first row of all couples in which none is ahead of one that bars it."""
    barring_ones = {couple: 0 for couple in couples}
    for _, second in bars:
        barring_ones[second] += 1
    row = []
    left = list(couples)
    while left:
        ready = [couple for couple in left if barring_ones[couple] == 0]
        row.append(ready[0])
        left.remove(ready[0])
        for first, second in bars:
            if first == ready[0]:
                barring_ones[second] -= 1
    return row


def bundles_among(couples):
    """The lists of the couples that hang together by persons in common, all in order."""
    found = []
    for couple in couples:
        touched = [bundle for bundle in found if any([share_a_person(couple, second) for second in bundle])]
        apart = [bundle for bundle in found if bundle not in touched]
        found = apart + [sorted([second for bundle in touched for second in bundle] + [couple])]
    return sorted(found)


def is_ring(bundle):
    """Whether fewer than two persons are in just one couple of a bundle each."""
    named = [person for couple in bundle for person in couple]
    return len([person for person in named if named.count(person) == 1]) < 2


def fibonacci(place):
    """The number at a place from 1 on: 1, 1, and each further one the sum of the two ahead of it."""
    here, behind = 1, 1
    for _ in range(place - 1):
        here, behind = behind, here + behind
    return here


def group_reach(company, group):
    """How many deeds within a group lead from a company as far as can be."""
    many = len(group[0])
    return 1 if many == 2 else many // 2 + len(marks_within(company, group))


def distance(kinds, one, other):
    """How many deeds a road from one company to another has at least, None if they are not joined."""
    check_companies(kinds, one, other)
    couples = couples_to_turn(one, other)
    return None if couples is None else len(couples)


def road(kinds, one, other):
    """The first, in Python's order, of the shortest roads from one company to another, None if there is none."""
    check_companies(kinds, one, other)
    couples = couples_to_turn(one, other)
    if couples is None:
        return None
    order = first_order(couples, bars_among(ties_of(one), couples))
    return [(low, high, other[high][low]) for low, high in order]


def is_shortest(kinds, one, other, value):
    """Whether a value is one of the shortest roads from one company to another."""
    check_companies(kinds, one, other)
    if not isinstance(value, list) or len(value) != len(couples_unlike(one, other)):
        return False
    behind, many = followed(kinds, one, value)
    return many == len(value) and behind == other


def first_deeds(kinds, one, other):
    """The list, in order, of the deeds that a shortest road can begin with, None if there is none."""
    check_companies(kinds, one, other)
    couples = couples_to_turn(one, other)
    if couples is None:
        return None
    ties = ties_of(one)
    return [(low, high, other[high][low]) for low, high in couples if are_alike(ties, low, high)]


def barring(kinds, one, other):
    """The list, in order, of all tuples of two couples of which the first has to be turned ahead of the second."""
    check_companies(kinds, one, other)
    couples = couples_to_turn(one, other)
    return None if couples is None else bars_among(ties_of(one), couples)


def bundles(kinds, one, other):
    """The list, in order, of the tuples `(couples, ring)` of all bundles, None if the companies are not joined."""
    check_companies(kinds, one, other)
    couples = couples_to_turn(one, other)
    if couples is None:
        return None
    return [(bundle, is_ring(bundle)) for bundle in bundles_among(couples)]


def how_many_roads(kinds, one, other):
    """How many shortest roads lead from one company to another."""
    check_companies(kinds, one, other)
    couples = couples_to_turn(one, other)
    if couples is None:
        return 0
    many = factorial(len(couples))
    for bundle in bundles_among(couples):
        size = len(bundle)
        orders = ring_number(size) if is_ring(bundle) else zigzag_number(size)
        many = many // factorial(size) * orders
    return many


def is_between(kinds, one, other, value):
    """Whether a value is a company that some shortest road from one company to another leads past."""
    check_companies(kinds, one, other)
    if not is_company_of(kinds, value) or len(value) != len(one):
        return False
    groups = groups_let_down(one)
    if not is_of_class(one, groups, other) or not is_of_class(one, groups, value):
        return False
    past = len(couples_unlike(one, value)) + len(couples_unlike(value, other))
    return past == len(couples_unlike(one, other))


def how_many_between(kinds, one, other):
    """How many companies lie between two, both of them included; 0 if they are not joined."""
    check_companies(kinds, one, other)
    couples = couples_to_turn(one, other)
    if couples is None:
        return 0
    many = 1
    for bundle in bundles_among(couples):
        size = len(bundle)
        many *= fibonacci(size - 1) + fibonacci(size + 1) if is_ring(bundle) else fibonacci(size + 2)
    return many


def farthest(kinds, company):
    """The greatest distance of a company of the class from a company."""
    check_company(kinds, company)
    return sum([group_reach(company, group) for group in groups_let_down(company)])


def greatest_distance(kinds, company):
    """The greatest distance of any two companies of the class."""
    check_company(kinds, company)
    sizes = [len(people) for people, _ in groups_let_down(company)]
    return sum([1 if many == 2 else 2 * (many // 2) for many in sizes])
