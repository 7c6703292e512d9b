"""The tree let down: twin knots let go of what their tie was ([14] to [16])."""

from itertools import combinations

from twinties.checks import check_companies, check_company
from twinties.companies import couples_unlike
from twinties.houses import tree_of_houses


def loose_pairs(company, tree):
    """The twin knots that stay: the whole company, or a part of a prime knot."""
    if len(company) == 2:
        return [[0, 1]]
    return [list(part) for _, kind, parts in tree if kind is None for part in parts if len(part) == 2]


def people_by_themselves(parts):
    """The single people at a knot of a kind when its twin knots are let down, ascending."""
    return sorted([person for part in parts if len(part) <= 2 for person in part])


def groups_let_down(company):
    """The tuples `(people, base)` of all groups, in order; the base of a loose pair is None."""
    tree = tree_of_houses(company)
    groups = [(pair, None) for pair in loose_pairs(company, tree)]
    for people, kind, parts in tree:
        if len(people) > 2 and kind is not None:
            groups.append((people_by_themselves(parts), kind))
    return sorted([group for group in groups if len(group[0]) > 1], key=lambda group: group[0])


def put_back(company, groups):
    """The company in which all ties within groups are put back to what the base has."""
    behind = [list(row) for row in company]
    for people, base in groups:
        for one, other in combinations(people, 2):
            behind[other][one] = 0 if base is None else base
    return behind


def base_company(company):
    """The company in which all that deeds can turn is put back."""
    return put_back(company, groups_let_down(company))


def marks_within(company, group):
    """The tuples `(a, b, kind)` of the couples of a group with a tie that is not of its base, in order."""
    people, base = group
    return [
        (one, other, company[other][one]) for one, other in combinations(people, 2)
        if company[other][one] != base
    ]


def is_of_class(company, groups, other):
    """Whether another company of as many people is joined with a company that has such groups.

    It is if its ties are the same but for those within groups, and no person has two marks ([18]): this takes the
    groups of just one of both.
    """
    for group in groups:
        named = [person for low, high, _ in marks_within(other, group) for person in (low, high)]
        if len(set(named)) < len(named):
            return False
    return put_back(company, groups) == put_back(other, groups)


def knots_left(kinds, company):
    """The list, in order, of the tuples `(people, kind)` of the knots of the tree let down."""
    check_company(kinds, company)
    tree = tree_of_houses(company)
    left = [(people, kind) for people, kind, _ in tree if len(people) > 2]
    left.extend([(pair, None) for pair in loose_pairs(company, tree)])
    return sorted(left, key=lambda knot: knot[0])


def base_of(kinds, company):
    """The base of a company."""
    check_company(kinds, company)
    return base_company(company)


def are_joined(kinds, one, other):
    """Whether a row of deeds leads from one company to another."""
    check_companies(kinds, one, other)
    return is_of_class(one, groups_let_down(one), other)


def parting_couple(kinds, one, other):
    """The first couple whose tie is unlike in the two bases, None if the companies are joined."""
    check_companies(kinds, one, other)
    unlike = couples_unlike(base_company(one), base_company(other))
    return unlike[0] if unlike else None
