"""Which ties are sure in all companies of a class, and which are free ([39] to [41])."""

from itertools import combinations

from twinties.checks import check_company, check_couple
from twinties.companies import company_among
from twinties.errors import InvalidCouple
from twinties.letdown import groups_let_down


def group_with(groups, couple):
    """The group that both of a couple are in, None if there is none."""
    for people, base in groups:
        if couple[0] in people and couple[1] in people:
            return people, base
    return None


def kinds_that_come(kinds, company, group, couple):
    """The kinds, ascending, of the tie of a couple who are in a told group, None if they are in none together."""
    return list(range(kinds)) if group is not None else [company[couple[1]][couple[0]]]


def is_sure_among(company, lot, couple):
    """Whether the tie of a couple is sure in the class of the company among a lot with them."""
    places = (lot.index(couple[0]), lot.index(couple[1]))
    return group_with(groups_let_down(company_among(company, lot)), places) is None


def is_free(kinds, company, couple):
    """Whether the tie of a couple is not the same in all companies of the class."""
    check_company(kinds, company)
    check_couple(company, couple)
    return group_with(groups_let_down(company), couple) is not None


def kinds_of(kinds, company, couple):
    """The ascending list of the kinds that the tie of a couple has in the companies of the class."""
    check_company(kinds, company)
    check_couple(company, couple)
    return kinds_that_come(kinds, company, group_with(groups_let_down(company), couple), couple)


def free_couples(kinds, company):
    """The list, in order, of all couples with free ties."""
    check_company(kinds, company)
    return sorted([couple for people, _ in groups_let_down(company) for couple in combinations(people, 2)])


def sure_four(kinds, company, couple):
    """The first lot of four people, all of fewer, among whom the tie of a couple is sure, None if it is free."""
    check_company(kinds, company)
    check_couple(company, couple)
    if group_with(groups_let_down(company), couple) is not None:
        return None
    people = list(range(len(company)))
    if len(people) < 4:
        return people
    others = [person for person in people if person not in couple]
    for pair in combinations(others, 2):
        lot = sorted(couple + pair)
        if is_sure_among(company, lot, couple):
            return lot
    return None


def kinds_together(kinds, company, couple, second):
    """The list, in order, of the tuples of the kinds of two couples' ties that come in one company."""
    check_company(kinds, company)
    check_couple(company, couple)
    check_couple(company, second)
    if second == couple:
        raise InvalidCouple(second)
    groups = groups_let_down(company)
    group, another = group_with(groups, couple), group_with(groups, second)
    found = [
        (kind, other)
        for kind in kinds_that_come(kinds, company, group, couple)
        for other in kinds_that_come(kinds, company, another, second)
    ]
    # Two couples of a loose pair are one, so a group with a person in common has a base.
    if group is None or group != another or (couple[0] not in second and couple[1] not in second):
        return found
    return [(kind, other) for kind, other in found if kind == group[1] or other == group[1]]
