"""Four people tell whether two companies are joined ([23] to [25])."""

from itertools import combinations

from twinties.checks import check_companies, check_lot, is_lot
from twinties.companies import are_alike, company_among, couples_unlike, ties_of
from twinties.letdown import base_company
from twinties.words import are_firm, six_ties, word_in


def are_joined_among(one, other, lot):
    """Whether the companies among a lot are joined."""
    return base_company(company_among(one, lot)) == base_company(company_among(other, lot))


def parting_three(firsts, seconds):
    """The first three people whose words are unlike in two companies, None if there are none."""
    for lot in combinations(range(len(firsts)), 3):
        if word_in(firsts, lot) != word_in(seconds, lot):
            return list(lot)
    return None


def parting_four(firsts, seconds):
    """The first four people who are firm in either company and whose ties are unlike in both, None without such."""
    for lot in combinations(range(len(firsts)), 4):
        six, others = six_ties(firsts, lot), six_ties(seconds, lot)
        if six != others and (are_firm(six) or are_firm(others)):
            return list(lot)
    return None


def joined_among(kinds, one, other, lot):
    """Whether two companies among a lot are joined."""
    check_companies(kinds, one, other)
    check_lot(one, lot)
    return are_joined_among(one, other, lot)


def parting_lot(kinds, one, other):
    """The paper against two companies being joined: three or four people, None if they are."""
    check_companies(kinds, one, other)
    firsts, seconds = ties_of(one), ties_of(other)
    lot = parting_three(firsts, seconds)
    return parting_four(firsts, seconds) if lot is None else lot


def is_parting_lot(kinds, one, other, value):
    """Whether a value is a lot of three or four people among whom two companies are not joined."""
    check_companies(kinds, one, other)
    if not is_lot(len(one), value) or len(value) not in (3, 4):
        return False
    return not are_joined_among(one, other, value)


def lone_couple(kinds, one, other):
    """The first couple that differs and stands alike in neither company, None if there is none."""
    check_companies(kinds, one, other)
    firsts, seconds = ties_of(one), ties_of(other)
    for low, high in couples_unlike(one, other):
        if not are_alike(firsts, low, high) and not are_alike(seconds, low, high):
            return (low, high)
    return None
