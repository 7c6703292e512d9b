"""How large classes are, and how far their companies are from one of them ([33] to [35])."""

from math import comb, factorial

from twinties.checks import check_company, check_count, check_kinds
from twinties.letdown import groups_let_down, marks_within


def power(number, times):
    """A number multiplied with itself so many times."""
    result = 1
    for _ in range(times):
        result *= number
    return result


def polynomial_product(ones, others):
    """The coefficients of the product of two polynomials that are told by theirs."""
    result = [0] * (len(ones) + len(others) - 1)
    for place, one in enumerate(ones):
        for further, other in enumerate(others):
            result[place + further] += one * other
    return result


def ways_of_group(kinds, people):
    """In how many ways a group of so many people takes part in a class."""
    ahead, here = 1, 1
    for many in range(2, people + 1):
        ahead, here = here, here + (many - 1) * (kinds - 1) * ahead
    return here


def size_of_class(kinds, groups):
    """How many companies there are in a class with such groups."""
    size = 1
    for people, _ in groups:
        size *= ways_of_group(kinds, len(people))
    return size


def pairings(people, couples):
    """How many lots of so many couples, no two with a person in common, so many people have (enough for them)."""
    return factorial(people) // ((1 << couples) * factorial(couples) * factorial(people - 2 * couples))


def new_pairings(people, undone, couples):
    """How many of these lots have none of so many told couples, no two of which have a person in common."""
    found = 0
    for wrong in range(min(undone, couples) + 1):
        ways = comb(undone, wrong) * pairings(people - 2 * wrong, couples - wrong)
        found += ways if wrong % 2 == 0 else -ways
    return found


def group_by_deeds(kinds, people, marks):
    """In how many ways a group takes part in a class, by the deeds from where so many of its couples have marks."""
    found = [0] * (marks + people // 2 + 1)
    kept_ways = [1]
    for kept in range(marks + 1):
        undone = marks - kept
        free = people - 2 * kept
        for made in range(free // 2 + 1):
            ways = comb(marks, kept) * new_pairings(free, undone, made) * power(kinds - 1, made)
            for place, more in enumerate(kept_ways):
                found[undone + made + place] += ways * more
        kept_ways = polynomial_product(kept_ways, [1, kinds - 2])
    return without_last_zeros(found)


def without_last_zeros(numbers):
    """The numbers of a list up to the last one that is not 0."""
    many = len(numbers)
    while numbers[many - 1] == 0:
        many -= 1
    return numbers[:many]


def group_size(kinds, people):
    """In how many ways a group of so many people takes part in a class."""
    check_kinds(kinds)
    check_count(people)
    return ways_of_group(kinds, people)


def class_size(kinds, company):
    """How many companies there are in the class of a company."""
    check_company(kinds, company)
    return size_of_class(kinds, groups_let_down(company))


def sizes_by_deeds(kinds, company):
    """The list of how many companies of the class are 0, 1, 2 and so on deeds away."""
    check_company(kinds, company)
    sizes = [1]
    for group in groups_let_down(company):
        people, base = group
        if base is None:
            sizes = polynomial_product(sizes, [1, kinds - 1])
        else:
            marks = len(marks_within(company, group))
            sizes = polynomial_product(sizes, group_by_deeds(kinds, len(people), marks))
    return sizes
