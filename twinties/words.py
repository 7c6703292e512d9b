"""What no deed changes: the words of threes, and the firm fours ([20] to [22])."""

from itertools import combinations

from twinties.checks import check_companies, check_company, check_lot
from twinties.companies import ties_of
from twinties.errors import InvalidLot


def word_in(ties, lot):
    """The word of three people."""
    low, middle, high = lot
    first, second, third = ties[low][middle], ties[low][high], ties[middle][high]
    if first == second or first == third:
        return (first,)
    if second == third:
        return (second,)
    return (first, second, third)


def words_in(ties):
    """The words of all threes, in order."""
    return [word_in(ties, lot) for lot in combinations(range(len(ties)), 3)]


def six_ties(ties, lot):
    """The ties of the couples of four people, in the order of the couples."""
    a, b, c, d = lot
    return [ties[a][b], ties[a][c], ties[a][d], ties[b][c], ties[b][d], ties[c][d]]


def are_firm(six):
    """Whether no two of four people with such six ties stand alike among them."""
    ab, ac, ad, bc, bd, cd = six
    return not (
        (ac == bc and ad == bd) or (ab == bc and ad == cd) or (ab == bd and ac == cd)
        or (ab == ac and bd == cd) or (ab == ad and bc == cd) or (ac == ad and bc == bd)
    )


def firm_in(ties):
    """The firm lots of four, in order, with their ties."""
    fours = [(list(lot), six_ties(ties, lot)) for lot in combinations(range(len(ties)), 4)]
    return [(lot, six) for lot, six in fours if are_firm(six)]


def word_of(kinds, company, lot):
    """The word of a lot of three."""
    check_company(kinds, company)
    check_lot(company, lot)
    if len(lot) != 3:
        raise InvalidLot(lot)
    return word_in(ties_of(company), lot)


def words_of(kinds, company):
    """The list of the words of all lots of three, in order."""
    check_company(kinds, company)
    return words_in(ties_of(company))


def word_tally(kinds, company):
    """The list, in order, of the tuples of each word that stands there and of how many threes have it."""
    check_company(kinds, company)
    tally = {}
    for word in words_in(ties_of(company)):
        tally[word] = tally.get(word, 0) + 1
    return sorted(tally.items())


def firm_fours(kinds, company):
    """The list, in order, of the tuples of all firm lots of four and the lists of their six ties."""
    check_company(kinds, company)
    return firm_in(ties_of(company))


def same_words(kinds, one, other):
    """Whether the words and the firm fours of two companies are equal."""
    check_companies(kinds, one, other)
    firsts, seconds = ties_of(one), ties_of(other)
    return words_in(firsts) == words_in(seconds) and firm_in(firsts) == firm_in(seconds)
