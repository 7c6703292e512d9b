"""What the tests share: companies, definitions taken word by word, and wrong values."""

from functools import lru_cache
from itertools import combinations, product

from twinties.book import CompanyBook
from twinties.companies import deeds, done
from twinties.errors import InvalidCompany, TieError

THIRTY_FIGURES = 10 ** 29

WRONG_KINDS = [
    None, True, False, 0, 1, 10, -2, THIRTY_FIGURES, "2", "", (), (2,), [], [2], {}, {2: 2},
]

# For companies of two kinds.
WRONG_COMPANIES = [
    None, True, False, 0, 3, "", "[[]]", (), ([],), [], {}, [0], [None], [()], [[0]], [[], []], [[], [2]],
    [[], [-1]], [[], [True]], [[], [False]], [[], [None]], [[], ["1"]], [[], [[]]], [[], [(1,)]], [[], (1,)],
    [(), [1]], [[], [1, 0]], [[], [1], [0]], [[], [1], [0, 2]], [[], [1], [0, 1], [0, THIRTY_FIGURES, 0]],
    [[], "1"], {"0": []}, [[0] * person for person in range(41)], [[1] * person for person in range(100)],
]

# For five people.
WRONG_COUPLES = [
    None, True, 0, "01", "", (), (0,), (0, 1, 2), [0, 1], [], {}, (1, 0), (1, 1), (0, 5), (4, 5), (-1, 0), (-2, -1),
    (False, 1), (0, True), (0, "1"), ("0", 1), (None, 1), (0, None), ((0, 1),), (0, [1]), ([0], 1),
    (0, THIRTY_FIGURES),
]

# For five people.
WRONG_LOTS = [
    None, True, 0, "0", "", (), (0,), (0, 1, 2), [], {}, [1, 0], [0, 0], [0, 1, 1], [5], [0, 1, 5], [-1], [-1, 0, 1],
    [True], [False, 1, 2], [0, True, 2], ["0"], [[0]], [(0,)], [None], [0, None, 2], [0, 1, 2, 3, 4, 5],
    [0, THIRTY_FIGURES], [0, 2, 1],
]

# For five people.
WRONG_ORDERS = [
    None, True, 0, "01234", (), (0, 1, 2, 3, 4), [], {}, [0], [0, 1, 2, 3], [0, 1, 2, 3, 4, 5], [0, 1, 2, 3, 3],
    [0, 1, 2, 3, 5], [1, 2, 3, 4, 5], [-1, 0, 1, 2, 3], [False, True, 2, 3, 4], [0, True, 2, 3, 4],
    [0, 1, 2, 3, "4"], [0, 1, 2, 3, None], [0, 1, 2, 3, [4]],
]

# Neither a company, nor a deed, a road, or a lot of three people or four.
ANYTHING = [
    None, True, False, 0, 1, -1, THIRTY_FIGURES, "", "text", (), {}, {"a": [1]}, (0,), (0, 1), ([], [1]), [None], [0],
    [[0]], [True], ["0", "1", "2"], (0, 1, 2), (0, 1, 0, 1), (0, 1, "0"), (None, 1, 0), [(), ()], [[], [None]],
]


def nested(depth):
    """A list in a list, and so on."""
    value = []
    for _ in range(depth):
        value = [value]
    return value


ANYTHING.extend([nested(29), TieError("text"), InvalidCompany([[], [1]]), CompanyBook(2, [[], [1]])])
ANYTHING.append((CompanyBook(2, [[]]), TieError()))


def companies_of(kinds, people):
    """All companies of so many kinds and people, in order."""
    many = people * (people - 1) // 2
    for ties in product(range(kinds), repeat=many):
        left = list(ties)
        yield [[left.pop(0) for _ in range(person)] for person in range(people)]


def tie_in(company, one, other):
    return company[max(one, other)][min(one, other)]


def couples_of(people):
    return list(combinations(range(people), 2))


def lots_of(people, many=None):
    """All lots of so many people, or those of a told number of them, in order."""
    sizes = range(1, people + 1) if many is None else [many]
    return sorted(list(lot) for size in sizes for lot in combinations(range(people), size))


def alike_by_definition(company, one, other):
    thirds = [third for third in range(len(company)) if third not in (one, other)]
    return all(tie_in(company, third, one) == tie_in(company, third, other) for third in thirds)


def houses_by_definition(company):
    people = range(len(company))
    return [
        lot for lot in lots_of(len(company))
        if all(len({tie_in(company, person, one) for one in lot}) == 1 for person in people if person not in lot)
    ]


def overlap(lot, other):
    common = set(lot) & set(other)
    return bool(common) and common not in (set(lot), set(other))


def strong_by_definition(company):
    houses = houses_by_definition(company)
    return [house for house in houses if not any(overlap(house, other) for other in houses)]


def knots_by_definition(company):
    strong = strong_by_definition(company)
    knots = []
    for people in strong:
        if len(people) > 1:
            within = [house for house in strong if set(house) < set(people)]
            parts = [house for house in within if not any(set(house) < set(other) for other in within)]
            between = {tie_in(company, a, b) for x, y in combinations(parts, 2) for a in x for b in y}
            knots.append((people, between.pop() if len(between) == 1 else None, parts))
    return knots


def classes_by_deeds(kinds, people):
    """All classes, each in order, found by doing deeds alone."""
    left = list(companies_of(kinds, people))
    classes = []
    while left:
        members = [left[0]]
        for company in members:
            for deed in deeds(kinds, company):
                behind = done(kinds, company, deed)
                if behind not in members:
                    members.append(behind)
        classes.append(sorted(members))
        left = [company for company in left if company not in members]
    return classes


class Web:
    """The class of a company, as rows of deeds from company to company tell it, and nothing else."""

    def __init__(self, kinds, company):
        self.kinds = kinds
        found = [company]
        for one in found:
            for deed in deeds(kinds, one):
                behind = done(kinds, one, deed)
                if behind not in found:
                    found.append(behind)
        self.members = sorted(found)
        number = {repr(one): place for place, one in enumerate(self.members)}
        self.steps = [
            [(deed, number[repr(done(kinds, one, deed))]) for deed in deeds(kinds, one)] for one in self.members
        ]
        self.far = [self.layers(place) for place in range(len(self.members))]

    def layers(self, start):
        """How many deeds each company is away from one, at least."""
        far = {start: 0}
        row = [start]
        for place in row:
            for _, behind in self.steps[place]:
                if behind not in far:
                    far[behind] = far[place] + 1
                    row.append(behind)
        return [far[place] for place in range(len(self.members))]

    def roads(self, start, end):
        """All shortest roads from one company to another."""
        if start == end:
            return [[]]
        return [
            [deed] + rest for deed, behind in self.steps[start] if self.far[behind][end] < self.far[start][end]
            for rest in self.roads(behind, end)
        ]

    def between(self, start, end):
        """The companies that shortest roads from one company to another lead past."""
        whole = self.far[start][end]
        return [
            place for place in range(len(self.members)) if self.far[start][place] + self.far[place][end] == whole
        ]


# One group of two to six people, several groups, loose pairs at a prime knot and by themselves, nobody in a group.
STARTS = [
    (2, [[]]),
    (9, [[]]),
    (2, [[], [1]]),
    (3, [[], [2]]),
    (9, [[], [4]]),
    (2, [[], [0], [0, 0]]),
    (2, [[], [1], [0, 1]]),
    (3, [[], [1], [1, 1]]),
    (5, [[], [4], [2, 2]]),
    (3, [[], [0], [1, 2]]),
    (2, [[], [1], [0, 1], [0, 0, 1]]),
    (2, [[], [1], [1, 1], [0, 0, 0]]),
    (2, [[1] * person for person in range(4)]),
    (3, [[2] * person for person in range(4)]),
    (2, [[0] * person for person in range(5)]),
    (2, [[], [1], [1, 1], [0, 0, 0], [0, 0, 0, 1]]),
    (3, [[], [1], [1, 1], [0, 0, 0], [0, 0, 0, 1]]),
    (3, [[], [1], [0, 1], [0, 0, 1], [1, 2, 1, 0]]),
    (2, [[1] * person for person in range(6)]),
    (2, [[], [1], [0, 1], [0, 0, 1], [1, 0, 1, 0], [0, 1, 0, 1, 1]]),
    (2, [[], [1], [1, 1], [0, 0, 0], [0, 0, 0, 0], [0, 0, 0, 0, 1]]),
]


@lru_cache
def webs():
    """The classes of some companies, among them all that are joined with one of three people or fewer."""
    return [Web(kinds, company) for kinds, company in STARTS]


def layered(sizes, kinds=2):
    """Layers of people, one around the other: all ties to those further in are of the layer's kind."""
    company = []
    for layer, size in enumerate(sizes):
        for _ in range(size):
            company.append([layer % kinds] * len(company))
    return company


def row_of_friends(people):
    """Each one a friend of the next one alone; prime for four people and more."""
    return [[1 if before == person - 1 else 0 for before in range(person)] for person in range(people)]


class Grower:
    """Makes companies together with their knots, from a seed: `tree` is None for one person, otherwise a tuple of
    the knot's kind, the company that its parts make, and the trees of the parts."""

    def __init__(self, kinds, rng):
        self.kinds = kinds
        self.rng = rng

    def tree(self, people, above=None):
        if people == 1:
            return None
        prime = people >= 4 and self.rng.random() < 0.4
        most = min(people, 8)
        many = self.rng.randint(4, max(4, most)) if prime else self.rng.randint(2, most)
        kind = None if prime else self.rng.choice([kind for kind in range(self.kinds) if kind != above])
        sizes = [1] * many
        for _ in range(people - many):
            heaviest = self.rng.randrange(many) if self.rng.random() < 0.5 else 0
            sizes[heaviest] += 1
        between = self.row(many) if prime else [[kind] * part for part in range(many)]
        return (kind, between, [self.tree(size, kind) for size in sizes])

    def row(self, many):
        """A row of friends of two kinds of ties: a prime company."""
        near, far = self.rng.sample(range(self.kinds), 2)
        return [[near if before == part - 1 else far for before in range(part)] for part in range(many)]

    def grown(self, tree):
        """The company of a tree and its knots, as tuples of people, kind and parts."""
        if tree is None:
            return [[]], []
        kind, between, trees = tree
        company, knots, parts = [], [], []
        for part, below in enumerate(trees):
            inner, inner_knots = self.grown(below)
            start = len(company)
            for row in inner:
                ties = [between[part][before] for before in range(part) for _ in parts[before]]
                company.append(ties + row)
            parts.append(list(range(start, start + len(inner))))
            knots.extend(
                ([start + one for one in people], told, [[start + one for one in lot] for lot in lots])
                for people, told, lots in inner_knots
            )
        knots.append((list(range(len(company))), kind, parts))
        return company, knots

    def shuffled(self, company, knots):
        """The company with its people renamed, and its knots likewise, in order."""
        order = list(range(len(company)))
        self.rng.shuffle(order)
        number = {person: place for place, person in enumerate(order)}
        other = [[tie_in(company, one, before) for before in order[:place]] for place, one in enumerate(order)]
        names = [
            (sorted(number[one] for one in people), kind, sorted(sorted(number[one] for one in lot) for lot in lots))
            for people, kind, lots in knots
        ]
        return other, sorted(names, key=lambda knot: knot[0])


def lists_in(value):
    """All list objects in a value, however deep."""
    if isinstance(value, list):
        return [value] + [found for item in value for found in lists_in(item)]
    if isinstance(value, tuple):
        return [found for item in value for found in lists_in(item)]
    if isinstance(value, dict):
        return [found for item in value.values() for found in lists_in(item)]
    return []


def plain(value):
    """Whether a value is made of what the document lets a function return, without Boolean-like numbers and such."""
    if isinstance(value, (list, tuple)):
        return type(value) in (list, tuple) and all(plain(item) for item in value)
    return value is None or type(value) in (bool, int, str)


def refusal(test, error, argument, function, *arguments, **named):
    """Check that a call is refused by just this error, which holds the very argument."""
    with test.assertRaises(error) as caught:
        function(*arguments, **named)
    test.assertIs(type(caught.exception), error)
    test.assertIs(caught.exception.value, argument)
