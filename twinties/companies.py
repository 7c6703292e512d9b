"""Companies, who stands alike in them, and the deeds that can be done ([6], [7])."""

from itertools import combinations

from twinties.checks import check_companies, check_company, check_couple, check_kinds, check_lot
from twinties.checks import is_company_of, is_couple_with_kind, is_order
from twinties.errors import InvalidDeed, InvalidLot


def ties_of(company):
    """The ties of each person to all people, each at its place; None in that of the person itself."""
    ties = [[None] * len(company) for _ in company]
    for other, row in enumerate(company):
        for one, kind in enumerate(row):
            ties[one][other] = kind
            ties[other][one] = kind
    return ties


def company_with(ties):
    """The company that has such ties as `ties_of` tells them."""
    return [row[:person] for person, row in enumerate(ties)]


def are_alike(ties, one, other):
    """Whether each third person has the same tie to both of two."""
    for third, row in enumerate(ties):
        if row[one] != row[other] and third != one and third != other:
            return False
    return True


def couples_alike(ties):
    """All couples who stand alike, in order."""
    return [(one, other) for one, other in combinations(range(len(ties)), 2) if are_alike(ties, one, other)]


def company_among(company, lot):
    """The company that the people of a lot make by themselves."""
    return [[company[person][before] for before in lot[:place]] for place, person in enumerate(lot)]


def company_in_order(company, order):
    """The company whose people stand in another order."""
    ties = ties_of(company)
    return [[ties[person][before] for before in order[:place]] for place, person in enumerate(order)]


def couples_unlike(one, other):
    """All couples whose ties are unlike in two companies, in order."""
    return [
        (low, high) for low, high in combinations(range(len(one)), 2)
        if one[high][low] != other[high][low]
    ]


def is_deed_now(kinds, ties, value):
    """Whether a value is a deed in the company that has such ties."""
    if not is_couple_with_kind(kinds, len(ties), value):
        return False
    one, other, kind = value
    return kind != ties[one][other] and are_alike(ties, one, other)


def followed(kinds, company, road):
    """The company behind the deeds of a list up to the first that cannot be done, and how many are done."""
    ties = ties_of(company)
    for place, deed in enumerate(road):
        if not is_deed_now(kinds, ties, deed):
            return company_with(ties), place
        one, other, kind = deed
        ties[one][other] = kind
        ties[other][one] = kind
    return company_with(ties), len(road)


def is_company(kinds, value):
    """Whether a value is a company."""
    check_kinds(kinds)
    return is_company_of(kinds, value)


def tie(kinds, company, couple):
    """The kind of a couple's tie."""
    check_company(kinds, company)
    check_couple(company, couple)
    one, other = couple
    return company[other][one]


def stand_alike(kinds, company, couple):
    """Whether a couple stands alike."""
    check_company(kinds, company)
    check_couple(company, couple)
    one, other = couple
    return are_alike(ties_of(company), one, other)


def alike_couples(kinds, company):
    """The list, in order, of all couples who stand alike."""
    check_company(kinds, company)
    return couples_alike(ties_of(company))


def among(kinds, company, lot):
    """The company among a lot."""
    check_company(kinds, company)
    check_lot(company, lot)
    return company_among(company, lot)


def renamed(kinds, company, order):
    """The company whose person i is the person `order[i]` of the old one."""
    check_company(kinds, company)
    if not is_order(len(company), order):
        raise InvalidLot(order)
    return company_in_order(company, order)


def differing(kinds, one, other):
    """The list, in order, of the couples whose ties are unlike in two companies."""
    check_companies(kinds, one, other)
    return couples_unlike(one, other)


def is_deed(kinds, company, value):
    """Whether a value is a deed in a company."""
    check_company(kinds, company)
    return is_deed_now(kinds, ties_of(company), value)


def deeds(kinds, company):
    """The list, in order, of all deeds in a company."""
    check_company(kinds, company)
    couples = couples_alike(ties_of(company))
    return [(one, other, kind) for one, other in couples for kind in range(kinds) if kind != company[other][one]]


def done(kinds, company, deed):
    """The company behind a deed."""
    check_company(kinds, company)
    behind, many = followed(kinds, company, [deed])
    if many == 0:
        raise InvalidDeed(deed)
    return behind


def led(kinds, company, road):
    """The company behind a list of deeds, done one behind the other."""
    check_company(kinds, company)
    if not isinstance(road, list):
        raise InvalidDeed(road)
    behind, many = followed(kinds, company, road)
    if many < len(road):
        raise InvalidDeed(road[many])
    return behind


def is_road(kinds, company, value):
    """Whether a value is a list of deeds, each of which can be done behind those ahead of it."""
    check_company(kinds, company)
    return isinstance(value, list) and followed(kinds, company, value)[1] == len(value)
