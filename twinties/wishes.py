"""Wishes for ties: whether they can be met, what they make sure, and what meets them ([51] to [56])."""

from itertools import combinations

from twinties.checks import check_company, is_company_of, is_couple_with_kind, is_lot
from twinties.companies import company_among, couples_unlike
from twinties.errors import InvalidWishes
from twinties.letdown import groups_let_down, is_of_class, marks_within, put_back
from twinties.sizes import power, ways_of_group


def are_wishes(kinds, company, value):
    """Whether a value is a list of wishes in the order of their couples, each couple once."""
    if not isinstance(value, list) or not all([is_couple_with_kind(kinds, len(company), wish) for wish in value]):
        return False
    return all([wish[:2] < later[:2] for wish, later in zip(value, value[1:])])


class Asked:
    """What wishes ask of the groups of a company.

    `turned` tells, by each of its two people, a wish of a couple of one group with a base that is of another kind;
    `kept` the couples of the other wishes within each group, `can_be` whether all wishes can be met.
    """

    def __init__(self, company, wishes):
        self.groups = groups_let_down(company)
        self.number_of = {person: number for number, group in enumerate(self.groups) for person in group[0]}
        self.turned = {}
        self.kept = [[] for _ in self.groups]
        self.can_be = True
        for wish in wishes:
            low, high, kind = wish
            number = self.shared(low, high)
            if number is None:
                if company[high][low] != kind:
                    self.can_be = False
            elif self.groups[number][1] in (None, kind):
                self.kept[number].append((low, high))
            else:
                if low in self.turned or high in self.turned:
                    self.can_be = False
                self.turned[low] = wish
                self.turned[high] = wish

    def shared(self, low, high):
        """The number of the group that both of a couple are in, None without one."""
        number = self.number_of.get(low)
        return number if self.number_of.get(high) == number else None


def check_wishes(kinds, company, wishes):
    """Refuse kinds, then a company, then wishes for it."""
    check_company(kinds, company)
    if not are_wishes(kinds, company, wishes):
        raise InvalidWishes(wishes)


def asked(kinds, company, wishes):
    """What wishes ask of a company; refused unless they are wishes."""
    check_wishes(kinds, company, wishes)
    return Asked(company, wishes)


def asked_and_met(kinds, company, wishes):
    """What wishes ask of a company; refused unless they are wishes that can be met."""
    asking = asked(kinds, company, wishes)
    if not asking.can_be:
        raise InvalidWishes(wishes)
    return asking


def kinds_by_couple(wishes):
    """The kinds that are wished, by their couples."""
    return {(low, high): kind for low, high, kind in wishes}


def are_refused_among(company, wished, lot):
    """Whether those wishes that are of couples of a lot cannot be met among it."""
    inner = [
        (one, other, wished[(lot[one], lot[other])]) for one, other in combinations(range(len(lot)), 2)
        if (lot[one], lot[other]) in wished
    ]
    return not Asked(company_among(company, lot), inner).can_be


def lots_of_couples(couples):
    """How many lots of 0, 1, 2 and so on of some couples there are, no two of a lot with a person in common.

    The people are settled one by one, as in `best_of_group`: the keys tell who of those behind is taken, and how many
    couples are in the lot.
    """
    people = sorted({person for couple in couples for person in couple})
    ahead = {(0, 0): 1}
    for place, person in enumerate(people):
        further = [people.index(high) - place for low, high in couples if low == person]
        ways = {}
        for (taken, many), number in ahead.items():
            reached = [(taken >> 1, many)]
            if taken & 1 == 0:
                reached.extend([((taken | 1 << far) >> 1, many + 1) for far in further if taken >> far & 1 == 0])
            for key in reached:
                ways[key] = ways.get(key, 0) + number
        ahead = ways
    return [ahead[(0, many)] for many in range(len(ahead))]


def ways_to_meet(kinds, group, kept, turned):
    """How many lists of marks of a group fit wishes."""
    people, base = group
    if base is None:
        return 1 if kept else kinds
    free = len([person for person in people if person not in turned])
    barred = [(low, high) for low, high in kept if low not in turned and high not in turned]
    # All lists of marks of free people, less those with a barred couple, and those with two of them counted back.
    return sum([
        lots * power(1 - kinds, many) * ways_of_group(kinds, free - 2 * many)
        for many, lots in enumerate(lots_of_couples(barred))
    ])


def is_quarrel(asking, wish, other):
    """Whether a wish quarrels with another one, of its couple, or of a couple to be turned that has one of its people.

    `asking` is what those wishes ask that the first one is of.
    """
    if wish[:2] == other[:2]:
        return wish != other
    return asking.turned.get(wish[0]) == wish


def can_meet(kinds, company, wishes):
    """Whether a company that is joined with a company meets wishes."""
    return asked(kinds, company, wishes).can_be


def refusing_four(kinds, company, wishes):
    """The first lot of four people, all of fewer, among whom wishes cannot be met, None if they can."""
    if asked(kinds, company, wishes).can_be:
        return None
    people = list(range(len(company)))
    if len(people) < 4:
        return people
    wished = kinds_by_couple(wishes)
    # Wishes that are all met already can be met among anybody.
    unmet = [(low, high) for low, high, kind in wishes if company[high][low] != kind]
    for lot in combinations(people, 4):
        if any([low in lot and high in lot for low, high in unmet]) and are_refused_among(company, wished, lot):
            return list(lot)
    return None


def is_refusing(kinds, company, wishes, value):
    """Whether a value is a lot among whom wishes cannot be met."""
    check_wishes(kinds, company, wishes)
    return is_lot(len(company), value) and are_refused_among(company, kinds_by_couple(wishes), value)


def sure_under(kinds, company, wishes):
    """The list, in order, of the tuples `(a, b, kind)` of all ties that are sure under wishes."""
    asking = asked_and_met(kinds, company, wishes)
    wished = kinds_by_couple(wishes)
    sure = []
    for low, high in combinations(range(len(company)), 2):
        number = asking.shared(low, high)
        if (low, high) in wished:
            sure.append((low, high, wished[(low, high)]))
        elif number is None:
            sure.append((low, high, company[high][low]))
        elif low in asking.turned or high in asking.turned:
            sure.append((low, high, asking.groups[number][1]))
    return sure


def nearest(kinds, company, wishes):
    """The tuple of the fewest deeds that lead to a company that meets wishes, and of this company."""
    asking = asked_and_met(kinds, company, wishes)
    met = [list(row) for row in company]
    for group in asking.groups:
        for low, high, _ in marks_within(company, group):
            if low in asking.turned or high in asking.turned:
                met[high][low] = group[1]
    for low, high, kind in wishes:
        met[high][low] = kind
    return len(couples_unlike(company, met)), met


def how_many_meet(kinds, company, wishes):
    """How many companies that are joined with a company meet wishes."""
    asking = asked(kinds, company, wishes)
    if not asking.can_be:
        return 0
    many = 1
    for group, kept in zip(asking.groups, asking.kept):
        many *= ways_to_meet(kinds, group, kept, asking.turned)
    return many


def first_meeting(kinds, company, wishes):
    """The first company, in Python's order, that is joined with a company and meets wishes."""
    asking = asked_and_met(kinds, company, wishes)
    wished = kinds_by_couple(wishes)
    first = put_back(company, asking.groups)
    for low, high in wished:
        first[high][low] = wished[(low, high)]
    taken = {person: True for person in asking.turned}
    for people, base in asking.groups:
        # Only a mark of the kind 0 comes sooner than the base; a loose pair has this kind already.
        if base is not None and base > 0:
            for place, high in enumerate(people):
                for low in people[:place]:
                    if low not in taken and high not in taken and (low, high) not in wished:
                        first[high][low] = 0
                        taken[low] = True
                        taken[high] = True
    return first


def is_meeting(kinds, company, wishes, value):
    """Whether a value is a company that is joined with a company and meets wishes."""
    check_wishes(kinds, company, wishes)
    if not is_company_of(kinds, value) or len(value) != len(company):
        return False
    if any([value[high][low] != kind for low, high, kind in wishes]):
        return False
    return is_of_class(company, groups_let_down(company), value)


def quarrel(kinds, company, wishes, others):
    """The first tuple, in Python's order, of a wish and one of others that quarrel, None if there is none."""
    check_company(kinds, company)
    for told in (wishes, others):
        if not are_wishes(kinds, company, told):
            raise InvalidWishes(told)
    asking, against = Asked(company, wishes), Asked(company, others)
    if not asking.can_be:
        raise InvalidWishes(wishes)
    if not against.can_be:
        raise InvalidWishes(others)
    same = {other[:2]: other for other in others}
    for wish in wishes:
        low, high, _ = wish
        near = [same.get((low, high)), against.turned.get(low), against.turned.get(high)]
        found = [other for other in near if other is not None and is_quarrel(asking, wish, other)]
        if found:
            return wish, min(found)
    return None
