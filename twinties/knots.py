"""Knots: the strong houses of two people and more ([11] to [13])."""

from twinties.checks import check_company, check_lot
from twinties.houses import tree_of_houses


def is_strong(kinds, company, lot):
    """Whether a lot is a house that overlaps no other one."""
    check_company(kinds, company)
    check_lot(company, lot)
    return len(lot) == 1 or lot in [knot[0] for knot in tree_of_houses(company)]


def knots(kinds, company):
    """The list, in order, of the tuples `(people, kind, parts)` of all knots."""
    check_company(kinds, company)
    return tree_of_houses(company)


def knot_of(kinds, company, lot):
    """The people of the least strong house that holds a lot."""
    check_company(kinds, company)
    check_lot(company, lot)
    if len(lot) == 1:
        return list(lot)
    people = [knot[0] for knot in tree_of_houses(company)]
    return min([house for house in people if all([person in house for person in lot])], key=len)
