"""What lies between three companies, and persons who come to joined ones ([31], [32])."""

from twinties.checks import check_companies, check_company, is_company_of, is_row
from twinties.errors import InvalidCompany, Unlike
from twinties.letdown import groups_let_down, is_of_class
from twinties.roads import bundles_among, couples_to_turn
from twinties.sizes import power


def tie_of_two(first, second, third):
    """The kind that two of three ties have at least, None if all are unlike."""
    if first == second or first == third:
        return first
    return second if second == third else None


def joined_couples(kinds, one, other):
    """The couples that differ in two companies; refused unless they are joined."""
    check_companies(kinds, one, other)
    couples = couples_to_turn(one, other)
    if couples is None:
        raise Unlike(other)
    return couples


def middle(kinds, one, other, third):
    """The company that lies between each two of three joined ones, None if there is none."""
    check_company(kinds, one)
    for company in (other, third):
        if not is_company_of(kinds, company):
            raise InvalidCompany(company)
    groups = groups_let_down(one)
    for company in (other, third):
        if len(company) != len(one) or not is_of_class(one, groups, company):
            raise Unlike(company)
    between = [
        [tie_of_two(row[before], other[person][before], third[person][before]) for before in range(person)]
        for person, row in enumerate(one)
    ]
    return None if any([None in row for row in between]) else between


def stay_joined(kinds, one, other, ties):
    """Whether two joined companies are joined still when one person comes to both with the same ties."""
    couples = joined_couples(kinds, one, other)
    if not is_row(kinds, len(one), ties):
        raise InvalidCompany(ties)
    return all([ties[low] == ties[high] for low, high in couples])


def how_many_stay(kinds, one, other):
    """For how many lists of ties of one person who comes to both, two joined companies stay joined."""
    couples = joined_couples(kinds, one, other)
    moved = len({person for couple in couples for person in couple})
    return power(kinds, len(one) - moved + len(bundles_among(couples)))
