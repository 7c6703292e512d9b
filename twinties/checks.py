"""What values are, and the errors for what they should be and are not ([2] to [5])."""

from twinties.errors import InvalidCompany, InvalidCouple, InvalidLot, InvalidNumber, InvalidPerson, Unlike

LEAST_KINDS = 2
MOST_KINDS = 9
MOST_PEOPLE = 40


def is_whole(value):
    """Whether a value is a whole number; Python's Booleans are integers, those of the document are not."""
    return isinstance(value, int) and not isinstance(value, bool)


def is_count(value):
    """Whether a value is a whole number of at least 0."""
    return is_whole(value) and value >= 0


def is_below(value, bound):
    """Whether a value is a whole number from 0 to one less than a bound."""
    return is_whole(value) and 0 <= value < bound


def are_kinds(value):
    """Whether a value is how many kinds there are."""
    return is_whole(value) and LEAST_KINDS <= value <= MOST_KINDS


def is_row(kinds, many, value):
    """Whether a value is a list of so many kinds."""
    return isinstance(value, list) and len(value) == many and all([is_below(kind, kinds) for kind in value])


def is_company_of(kinds, value):
    """Whether a value is a company of so many kinds."""
    if not isinstance(value, list) or not 1 <= len(value) <= MOST_PEOPLE:
        return False
    return all([is_row(kinds, person, row) for person, row in enumerate(value)])


def is_couple(many, value):
    """Whether a value is a couple of so many people."""
    if not isinstance(value, tuple) or len(value) != 2:
        return False
    return is_below(value[1], many) and is_below(value[0], value[1])


def is_couple_with_kind(kinds, many, value):
    """Whether a value is a tuple `(one, other, kind)` of a couple of so many people and of a kind."""
    if not isinstance(value, tuple) or len(value) != 3:
        return False
    return is_couple(many, value[:2]) and is_below(value[2], kinds)


def is_lot(many, value):
    """Whether a value is a lot of so many people."""
    if not isinstance(value, list) or not 1 <= len(value) <= many:
        return False
    if not all([is_below(person, many) for person in value]):
        return False
    return all([person < later for person, later in zip(value, value[1:])])


def is_order(many, value):
    """Whether a value is a list of all of so many people, each once."""
    if not isinstance(value, list) or not all([is_below(person, many) for person in value]):
        return False
    return sorted(value) == list(range(many))


def check_kinds(kinds):
    """Refuse what is no number of kinds."""
    if not are_kinds(kinds):
        raise InvalidNumber(kinds)


def check_count(value):
    """Refuse what is no count."""
    if not is_count(value):
        raise InvalidNumber(value)


def check_below(value, bound):
    """Refuse what is no whole number from 0 to one less than a bound."""
    if not is_below(value, bound):
        raise InvalidNumber(value)


def check_company(kinds, company):
    """Refuse kinds, then a company of them."""
    check_kinds(kinds)
    if not is_company_of(kinds, company):
        raise InvalidCompany(company)


def check_companies(kinds, one, other):
    """Refuse kinds, then either company, then two of unlike numbers of people."""
    check_company(kinds, one)
    if not is_company_of(kinds, other):
        raise InvalidCompany(other)
    if len(one) != len(other):
        raise Unlike(other)


def check_person(company, person):
    """Refuse what is no person of a company."""
    if not is_below(person, len(company)):
        raise InvalidPerson(person)


def check_couple(company, couple):
    """Refuse what is no couple of a company."""
    if not is_couple(len(company), couple):
        raise InvalidCouple(couple)


def check_lot(company, lot):
    """Refuse what is no lot of a company."""
    if not is_lot(len(company), lot):
        raise InvalidLot(lot)
