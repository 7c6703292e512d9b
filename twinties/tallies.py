"""How many ties of a kind the companies of a class have ([42] to [44])."""

from math import comb

from twinties.checks import check_below, check_company, check_count, check_person
from twinties.companies import ties_of
from twinties.letdown import groups_let_down
from twinties.sizes import pairings, polynomial_product, power


def couples_of_group(people):
    """How many couples so many people have."""
    return people * (people - 1) // 2


def group_bounds(group, kind):
    """How many ties of a kind a group has at least, and how many at most."""
    people, base = group
    many = len(people)
    if base == kind:
        return couples_of_group(many) - many // 2, couples_of_group(many)
    return 0, many // 2


def group_tallies(kinds, group, kind):
    """In how many ways a group has the least number of ties of a kind, one more, and so on up to the most."""
    people, base = group
    many = len(people)
    if base is None:
        return [kinds - 1, 1]
    if base == kind:
        ways = [pairings(many, turned) * power(kinds - 1, turned) for turned in range(many // 2 + 1)]
        return ways[::-1]
    found = [0] * (many // 2 + 1)
    for turned in range(many // 2 + 1):
        for so_many in range(turned + 1):
            others = comb(turned, so_many) * power(kinds - 2, turned - so_many)
            found[so_many] += pairings(many, turned) * others
    return found


def sure_ties(company, groups, kind):
    """How many ties of a kind stand between people who are not in one group."""
    within = [company[high][low] for people, _ in groups for place, high in enumerate(people) for low in people[:place]]
    return sum([row.count(kind) for row in company]) - within.count(kind)


def bounds_of(company, groups, kind):
    """How many ties of a kind the companies of a class have at least, and how many at most."""
    sure = sure_ties(company, groups, kind)
    bounds = [group_bounds(group, kind) for group in groups]
    return sure + sum([least for least, _ in bounds]), sure + sum([most for _, most in bounds])


def class_tallies(kinds, groups, kind):
    """How many companies of a class have the least number of ties of a kind, one more, and so on up to the most."""
    found = [1]
    for group in groups:
        found = polynomial_product(found, group_tallies(kinds, group, kind))
    return found


def sure_ones(company, groups, person, kind):
    """The people, ascending, to whom a person has a tie of a kind in all companies of the class."""
    within = [one for people, _ in groups if person in people for one in people]
    row = ties_of(company)[person]
    return [other for other, told in enumerate(row) if told == kind and other not in within]


def tie_bounds(kinds, company, kind):
    """The tuple of how many ties of a kind the companies of the class have at least, and how many at most."""
    check_company(kinds, company)
    check_below(kind, kinds)
    return bounds_of(company, groups_let_down(company), kind)


def how_many_with(kinds, company, kind, number):
    """How many companies of the class have just so many ties of a kind."""
    check_company(kinds, company)
    check_below(kind, kinds)
    check_count(number)
    groups = groups_let_down(company)
    least, most = bounds_of(company, groups, kind)
    return class_tallies(kinds, groups, kind)[number - least] if least <= number <= most else 0


def tallies(kinds, company, kind):
    """The list of how many companies of the class have the least number of ties of a kind, up to the most."""
    check_company(kinds, company)
    check_below(kind, kinds)
    return class_tallies(kinds, groups_let_down(company), kind)


def person_bounds(kinds, company, person, kind):
    """The tuple of how many ties of a kind a person has at least, and how many at most."""
    check_company(kinds, company)
    check_person(company, person)
    check_below(kind, kinds)
    groups = groups_let_down(company)
    sure = len(sure_ones(company, groups, person, kind))
    for people, base in groups:
        if person in people:
            # One tie of a person can have another kind than the base, whichever it is.
            least = len(people) - 2 if base == kind else 0
            return sure + least, sure + least + 1
    return sure, sure


def sure_friends(kinds, company, person, kind):
    """The ascending list of the people to whom a person has a tie of a kind in all companies of the class."""
    check_company(kinds, company)
    check_person(company, person)
    check_below(kind, kinds)
    return sure_ones(company, groups_let_down(company), person, kind)
