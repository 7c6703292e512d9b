"""Groups of people whose ties can be turned, and the marks that tell how they are ([17] to [19])."""

from twinties.checks import check_company, is_couple_with_kind
from twinties.errors import InvalidWishes
from twinties.letdown import base_company, groups_let_down, marks_within


def is_mark(kinds, company, groups, value):
    """Whether a value tells a couple of one group, and a kind that is not its base."""
    if not is_couple_with_kind(kinds, len(company), value):
        return False
    one, other, kind = value
    return any([one in people and other in people and kind != base for people, base in groups])


def are_marks(kinds, company, groups, value):
    """Whether a value is the list of the marks of some company with such groups."""
    if not isinstance(value, list) or not all([is_mark(kinds, company, groups, mark) for mark in value]):
        return False
    named = [person for one, other, _ in value for person in (one, other)]
    if len(set(named)) < len(named) or value != sorted(value):
        return False
    return all([people[0] in named for people, base in groups if base is None])


def groups_of(kinds, company):
    """The list, in order, of the tuples `(people, base)` of all groups."""
    check_company(kinds, company)
    return groups_let_down(company)


def marks_of(kinds, company):
    """The list, in order, of the tuples `(a, b, kind)` of all marks."""
    check_company(kinds, company)
    return sorted([mark for group in groups_let_down(company) for mark in marks_within(company, group)])


def marked(kinds, company, marks):
    """The company joined with a company that has such marks."""
    check_company(kinds, company)
    if not are_marks(kinds, company, groups_let_down(company), marks):
        raise InvalidWishes(marks)
    with_marks = base_company(company)
    for one, other, kind in marks:
        with_marks[other][one] = kind
    return with_marks


def movers(kinds, company):
    """The list, ascending, of the people who are in a group."""
    check_company(kinds, company)
    return sorted([person for people, _ in groups_let_down(company) for person in people])
