"""All companies of a class, in order, and how many classes there are ([36] to [38])."""

from itertools import accumulate
from math import comb

from twinties.checks import MOST_PEOPLE, check_below, check_company, check_kinds, is_company_of, is_whole
from twinties.errors import InvalidNumber, TooMany
from twinties.letdown import groups_let_down, is_of_class, marks_within, put_back
from twinties.sizes import power, size_of_class

MOST_MEMBERS = 1000


def groups_by_person(groups):
    """The group of each person who is in one, in the order of the persons."""
    pairs = [(person, group) for group in groups for person in group[0]]
    return {person: group for person, group in sorted(pairs, key=lambda pair: pair[0])}


def with_marks(base, marks):
    """The company with such a base and such marks."""
    company = [list(row) for row in base]
    for low, high, kind in marks:
        company[high][low] = kind
    return company


def singles_ahead(group, person, marks):
    """The people of a group ahead of a person who have no mark, ascending."""
    marked_ones = [one for mark in marks for one in mark[:2]]
    return [one for one in group[0] if one < person and one not in marked_ones]


def choices(kinds, group, person, singles):
    """The lists of at most one mark that a person of a group can have with the single people ahead of it.

    They stand in the order of the companies: a mark below the base comes the sooner the further ahead it stands, one
    above the base the later.
    """
    base = group[1]
    if base is None:
        return [[(one, person, kind)] for one in singles for kind in range(kinds)] if singles else [[]]
    below = [[(one, person, kind)] for one in singles for kind in range(base)]
    above = [[(one, person, kind)] for one in singles[::-1] for kind in range(base + 1, kinds)]
    return below + [[]] + above


def ways_left(kinds, group):
    """In the list f, at the place r: in how many ways a group is left with r settled single people and f to come."""
    many = len(group[0])
    table = [[1] * (many + 1)]
    for coming in range(1, many + 1):
        behind = table[-1]
        row = [behind[1]]
        for singles in range(1, many + 1 - coming):
            row.append(behind[singles + 1] + singles * (kinds - 1) * behind[singles - 1])
        table.append(row)
    return table


class Settling:
    """A class whose people settle their marks with those ahead of them, one by one, in their order."""

    def __init__(self, kinds, groups):
        self.kinds = kinds
        self.group_of = groups_by_person(groups)
        self.tables = {group[0][0]: ways_left(kinds, group) for group in groups}
        self.left = size_of_class(kinds, groups)
        self.marks = []
        self.ahead = 0
        self.choices = []
        self.ways = []
        self.numbers = []

    def turn_to(self, person):
        """Tell the choices of a person, and how many of the class are ahead of the first company with each."""
        group = self.group_of[person]
        people, base = group
        singles = singles_ahead(group, person, self.marks)
        self.choices = choices(self.kinds, group, person, singles)
        if base is None:
            self.ways = [1 if choice else self.kinds for choice in self.choices]
        else:
            behind = self.tables[people[0]][len(people) - 1 - people.index(person)]
            self.ways = [behind[len(singles) - 1] if choice else behind[len(singles) + 1] for choice in self.choices]
        others = self.left // sum(self.ways)
        self.numbers = [self.ahead + others * ways for ways in accumulate([0] + self.ways[:-1])]

    def settle(self, place):
        """Take the choice at a place."""
        self.left = self.left // sum(self.ways) * self.ways[place]
        self.ahead = self.numbers[place]
        self.marks = self.marks + self.choices[place]


def marks_by_number(kinds, groups, number):
    """The marks of the company of a class ahead of which there are so many."""
    settling = Settling(kinds, groups)
    for person in settling.group_of:
        settling.turn_to(person)
        settling.settle(len([ahead for ahead in settling.numbers if ahead <= number]) - 1)
    return settling.marks


def number_of(kinds, groups, company):
    """How many of its class are ahead of a company."""
    mark_of = {mark[1]: [mark] for group in groups for mark in marks_within(company, group)}
    settling = Settling(kinds, groups)
    for person in settling.group_of:
        settling.turn_to(person)
        settling.settle(settling.choices.index(mark_of.get(person, [])))
    return settling.ahead


def all_marks(kinds, groups):
    """The lists of marks of all companies of a class, in the order of the companies."""
    lists = [[]]
    group_of = groups_by_person(groups)
    for person in group_of:
        group = group_of[person]
        lists = [
            marks + choice for marks in lists
            for choice in choices(kinds, group, person, singles_ahead(group, person, marks))
        ]
    return lists


class LotSums:
    """The sums S(w, n, m) over all ways to part n people into m lots; the weights w are told one by one."""

    def __init__(self):
        self.weights = [0]
        self.rows = [[1]]

    def parted(self):
        """S(w, n, m), at the place m, for the next n, and 0 at the place 1: its own weight is not told yet."""
        many = len(self.rows)
        sums = [0] * (many + 1)
        for size in range(1, many):
            # The last person is in some lot: who else is in it is any of those ahead.
            factor = comb(many - 1, size - 1) * self.weights[size]
            for lots, rest in enumerate(self.rows[many - size]):
                sums[lots + 1] += factor * rest
        self.rows.append(sums)
        return list(sums)

    def weigh(self, weight):
        """Tell the weight of the n that was parted last."""
        self.rows[-1][1] = weight
        self.weights.append(weight)


def sum_of_products(numbers, others):
    """The sum of the products of what stands at one place of two lists."""
    return sum([number * other for number, other in zip(numbers, others)])


def prime_ways(kinds, people):
    """The list p of [38]: in how many ways so many parts hang at a prime knot, up to so many."""
    every, of_no_kind = LotSums(), LotSums()
    primes = [0]
    companies = 1
    for many in range(1, people + 1):
        companies *= power(kinds, many - 1)
        with_kind = sum(of_no_kind.parted())
        lesser = sum_of_products(primes, every.parted())
        primes.append(companies - (1 if many == 1 else 0) - kinds * with_kind - lesser)
        every.weigh(companies)
        of_no_kind.weigh(companies - with_kind)
    return primes


def number_of_classes(kinds, people, alone):
    """How many classes there are of companies of so many people; of those with one company only, if wished."""
    primes = prime_ways(kinds, people)
    trees, parts = LotSums(), LotSums()
    classes = 0
    for many in range(1, people + 1):
        prime = sum_of_products(primes, trees.parted())
        of_kind = sum(parts.parted())
        if alone:
            # Single people are left out of the weights: one at most hangs at a knot of a kind.
            of_kind += many * sum(parts.rows[many - 1][1:])
        if many == 2:
            of_kind = 0
        single = 1 if many == 1 else 0
        loose = 1 if many == 2 and not alone else 0
        classes = single + loose + kinds * of_kind + prime
        trees.weigh(classes)
        parts.weigh(0 if alone and many == 1 else single + (kinds - 1) * of_kind + prime)
    return classes


def check_people(people):
    """Refuse what is no number of people that a company can have."""
    if not is_whole(people) or not 1 <= people <= MOST_PEOPLE:
        raise InvalidNumber(people)


def members(kinds, company):
    """The class of a company: the list, in order, of all companies that are joined with it."""
    check_company(kinds, company)
    groups = groups_let_down(company)
    size = size_of_class(kinds, groups)
    if size > MOST_MEMBERS:
        raise TooMany(size)
    base = put_back(company, groups)
    return [with_marks(base, marks) for marks in all_marks(kinds, groups)]


def is_member(kinds, company, value):
    """Whether a value is a company of the class of a company."""
    check_company(kinds, company)
    if not is_company_of(kinds, value) or len(value) != len(company):
        return False
    return is_of_class(company, groups_let_down(company), value)


def member_at(kinds, company, number):
    """The company of the class ahead of which, in Python's order, there are so many of it."""
    check_company(kinds, company)
    groups = groups_let_down(company)
    check_below(number, size_of_class(kinds, groups))
    return with_marks(put_back(company, groups), marks_by_number(kinds, groups, number))


def member_number(kinds, company):
    """How many companies of its class are ahead of a company, in Python's order."""
    check_company(kinds, company)
    return number_of(kinds, groups_let_down(company), company)


def next_member(kinds, company):
    """The company of the class that comes next behind a company, in Python's order, None for the last one."""
    check_company(kinds, company)
    groups = groups_let_down(company)
    number = number_of(kinds, groups, company) + 1
    if number == size_of_class(kinds, groups):
        return None
    return with_marks(put_back(company, groups), marks_by_number(kinds, groups, number))


def how_many_classes(kinds, people):
    """How many classes there are of companies of so many people."""
    check_kinds(kinds)
    check_people(people)
    return number_of_classes(kinds, people, False)


def how_many_alone(kinds, people):
    """How many companies of so many people are alone in their class."""
    check_kinds(kinds)
    check_people(people)
    return number_of_classes(kinds, people, True)
