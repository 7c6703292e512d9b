"""[1] to [5] for every function: names, wrong arguments, their order, and what becomes of lists."""

import importlib
import inspect
import unittest
from copy import deepcopy

from tests import helper
from tests.test_book import NO_BOOKS
from tests.test_lines import WRONG_LINES
from tests.test_programs import WRONG_PROGRAMS, WRONG_STATE_LOTS, WRONG_STATES
from tests.test_shuffles import FAMILY, WRONG_FAMILIES
from tests.test_stairs import WRONG_TOLLS
from tests.test_wishes import WRONG_WISHES
from twinties import errors
from twinties.book import CompanyBook

INTERFACE = {
    "twinties.companies": [
        "is_company(kinds, value)", "tie(kinds, company, couple)", "stand_alike(kinds, company, couple)",
        "alike_couples(kinds, company)", "among(kinds, company, lot)", "renamed(kinds, company, order)",
        "differing(kinds, one, other)", "is_deed(kinds, company, value)", "deeds(kinds, company)",
        "done(kinds, company, deed)", "led(kinds, company, road)", "is_road(kinds, company, value)",
    ],
    "twinties.houses": [
        "is_house(kinds, company, lot)", "parting_person(kinds, company, lot)", "least_house(kinds, company, lot)",
        "how_many_houses(kinds, company)", "all_houses(kinds, company)",
    ],
    "twinties.knots": ["is_strong(kinds, company, lot)", "knots(kinds, company)", "knot_of(kinds, company, lot)"],
    "twinties.letdown": [
        "knots_left(kinds, company)", "base_of(kinds, company)", "are_joined(kinds, one, other)",
        "parting_couple(kinds, one, other)",
    ],
    "twinties.groups": [
        "groups_of(kinds, company)", "marks_of(kinds, company)", "marked(kinds, company, marks)",
        "movers(kinds, company)",
    ],
    "twinties.words": [
        "word_of(kinds, company, lot)", "words_of(kinds, company)", "word_tally(kinds, company)",
        "firm_fours(kinds, company)", "same_words(kinds, one, other)",
    ],
    "twinties.fours": [
        "joined_among(kinds, one, other, lot)", "parting_lot(kinds, one, other)",
        "is_parting_lot(kinds, one, other, value)", "lone_couple(kinds, one, other)",
    ],
    "twinties.roads": [
        "distance(kinds, one, other)", "road(kinds, one, other)", "is_shortest(kinds, one, other, value)",
        "first_deeds(kinds, one, other)", "barring(kinds, one, other)", "bundles(kinds, one, other)",
        "how_many_roads(kinds, one, other)", "is_between(kinds, one, other, value)",
        "how_many_between(kinds, one, other)", "farthest(kinds, company)", "greatest_distance(kinds, company)",
    ],
    "twinties.comers": [
        "middle(kinds, one, other, third)", "stay_joined(kinds, one, other, ties)", "how_many_stay(kinds, one, other)",
    ],
    "twinties.zigzags": ["zigzag_number(count)", "ring_number(count)"],
    "twinties.sizes": ["group_size(kinds, people)", "class_size(kinds, company)", "sizes_by_deeds(kinds, company)"],
    "twinties.classes": [
        "members(kinds, company)", "is_member(kinds, company, value)", "member_at(kinds, company, number)",
        "member_number(kinds, company)", "next_member(kinds, company)", "how_many_classes(kinds, people)",
        "how_many_alone(kinds, people)",
    ],
    "twinties.ties": [
        "is_free(kinds, company, couple)", "kinds_of(kinds, company, couple)", "free_couples(kinds, company)",
        "sure_four(kinds, company, couple)", "kinds_together(kinds, company, couple, second)",
    ],
    "twinties.tallies": [
        "tie_bounds(kinds, company, kind)", "how_many_with(kinds, company, kind, number)",
        "tallies(kinds, company, kind)", "person_bounds(kinds, company, person, kind)",
        "sure_friends(kinds, company, person, kind)",
    ],
    "twinties.prices": [
        "price_of(kinds, company, prices)", "cheapest(kinds, company, prices)",
        "is_cheapest(kinds, company, prices, value)", "how_many_cheapest(kinds, company, prices)",
    ],
    "twinties.stairs": [
        "least_by_turned(kinds, company, prices)", "fee_stairs(kinds, company, prices)",
        "road_price(kinds, one, other, tolls)",
    ],
    "twinties.wishes": [
        "can_meet(kinds, company, wishes)", "refusing_four(kinds, company, wishes)",
        "is_refusing(kinds, company, wishes, value)", "sure_under(kinds, company, wishes)",
        "nearest(kinds, company, wishes)", "how_many_meet(kinds, company, wishes)",
        "first_meeting(kinds, company, wishes)", "is_meeting(kinds, company, wishes, value)",
        "quarrel(kinds, company, wishes, others)",
    ],
    "twinties.programs": [
        "is_program(value)", "run(kinds, company, program)", "states_of(kinds, lot)", "how_many_states(kinds, many)",
        "state_after(kinds, lot, state, program)", "programs_alike(kinds, one, other)",
        "parting_state(kinds, one, other)", "parting_company(kinds, one, other)", "undone_program(kinds, program)",
    ],
    "twinties.blocks": [
        "blocks_of(kinds, company, program)", "rounds_of(kinds, program)",
        "run_often(kinds, company, program, times)",
    ],
    "twinties.shuffles": [
        "shuffle_of(kinds, lot, program)", "is_told(kinds, many, value)", "made_program(kinds, family)",
        "how_many_programs(kinds, many)", "shortest_program(program)",
    ],
    "twinties.leagues": [
        "is_league(value)", "beats(league, person, loser)", "league_couples(league)", "turned(league, couple)",
        "are_joined_leagues(one, other)", "parting_people(one, other)", "league_turns(one, other)",
        "league_road(one, other)", "is_league_road(one, other, value)",
    ],
    "twinties.rows": [
        "runs(league)", "league_class_size(league)", "leagues_by_turns(league)", "is_sure_result(league, couple)",
        "sure_people(league, couple)", "league_at(league, number)", "league_number(league)",
    ],
    "twinties.lines": ["line_of(kinds, company)", "of_line(line)"],
    "twinties.book": ["is_step(book, value)"],
}
# What a parameter stands for where this is not what it stands for in most modules.
MEANINGS = {
    ("twinties.programs", "lot"): "state lot", ("twinties.programs", "one"): "program",
    ("twinties.programs", "other"): "other program", ("twinties.programs", "many"): "count",
    ("twinties.shuffles", "lot"): "state lot", ("twinties.shuffles", "program"): "program of three",
    ("twinties.leagues", "couple"): "couple who stand alike", ("twinties.leagues", "one"): "league",
    ("twinties.leagues", "other"): "other league", ("twinties.rows", "number"): "league number",
}

FIVE = [[], [1], [1, 1], [0, 0, 0], [0, 0, 0, 1]]

WRONG_DEEDS = [
    None, True, 0, "010", "", (), [], {}, [0, 1, 0], (0, 1), (0, 1, 0, 0), ((0, 1), 0), (1, 0, 0), (1, 1, 0), (0, 5, 1),
    (-1, 1, 0), (0, 1, 1), (0, 1, 2), (0, 1, -1), (0, 1, False), (False, 1, 0), (0, True, 0), (0, 1, None),
    (0, 1, "0"), ("0", 1, 0), ([0], 1, 0), (0, 1, [0]), (0, 3, 1), (2, 4, 1), (0, 1, helper.THIRTY_FIGURES),
]

# The groups of FIVE are ([0, 1, 2], 1) and ([3, 4], 0).
WRONG_MARKS = [
    None, True, 0, "", (), {}, ((0, 1, 0),), (0, 1, 0), [0], [None], [(0, 1)], [[0, 1, 0]], [(0, 1, 0, 0)], [(0, 1, 1)],
    [(0, 1, 2)], [(0, 1, -1)], [(0, 1, False)], [(False, 1, 0)], [(0, True, 0)], [(0, 1, None)], [(1, 0, 0)],
    [(0, 0, 0)], [(0, 5, 0)], [(0, 3, 1)], [(0, 3, 0)], [(3, 4, 0)], [(0, 1, 0), (1, 2, 0)], [(0, 1, 0), (0, 2, 0)],
    [(0, 1, 0), (0, 1, 0)], [(3, 4, 1), (0, 1, 0)], [(0, 1, 0), (3, 4, "1")], [(0, 1, 0), None],
]

WRONG_COUNTS = [None, True, False, -1, -2, -helper.THIRTY_FIGURES, "4", "", (), (4,), [], [4], {}, {4: 4}]

# For five people and two kinds.
WRONG_TIES = [
    None, True, 0, "00000", "", (), (0, 0, 0, 0, 0), {}, [], [0], [0] * 4, [0] * 6, [0, 0, 0, 0, 2], [-1, 0, 0, 0, 0],
    [0, 0, True, 0, 0], [False, 0, 0, 0, 0], [None] * 5, ["0"] * 5, [[0]] * 5, [0, 0, 0, 0, helper.THIRTY_FIGURES],
]

# For five people.
WRONG_PERSONS = [None, True, False, -1, 5, 6, -helper.THIRTY_FIGURES, helper.THIRTY_FIGURES, "0", (), (0,), [], [0], {}]

# For two kinds.
WRONG_KIND = [None, True, False, -1, 2, 3, 9, helper.THIRTY_FIGURES, "0", "", (), (0,), [], [0], {}, {0: 0}]

PRICES = [
    [], [[3, -1]], [[0, 0], [7, 8]], [[1, 2], [2, 1], [5, 5]], [[4, 4], [0, 1], [-5, 2], [helper.THIRTY_FIGURES, 6]],
]


def prices_with(wrong):
    return PRICES[:4] + [PRICES[4][:3] + [wrong]]


# For five people and two kinds.
WRONG_PRICES = [
    None, True, 0, "", (), [], {}, [[]], PRICES[:4], PRICES + [[[0, 0]] * 5], tuple(PRICES), [None] * 5, [[]] * 5,
    [(), *PRICES[1:]], [[[0, 0]], *PRICES[1:]], [[], tuple(PRICES[1]), *PRICES[2:]], PRICES[:4] + [PRICES[4][:3]],
    PRICES[:4] + [PRICES[4] + [[0, 0]]],
    *[prices_with(wrong) for wrong in (
        None, 0, "00", (0, 0), [], [0], [0, 0, 0], [0, None], [True, 0], [0, False], ["0", 0], [[0], 0], [0, (0,)], {},
    )],
]

WRONG = {
    "kinds": (errors.InvalidNumber, helper.WRONG_KINDS),
    "company": (errors.InvalidCompany, helper.WRONG_COMPANIES),
    "one": (errors.InvalidCompany, helper.WRONG_COMPANIES),
    "other": (errors.InvalidCompany, helper.WRONG_COMPANIES),
    "couple": (errors.InvalidCouple, helper.WRONG_COUPLES),
    "lot": (errors.InvalidLot, helper.WRONG_LOTS),
    "order": (errors.InvalidLot, helper.WRONG_ORDERS),
    "deed": (errors.InvalidDeed, WRONG_DEEDS),
    "road": (errors.InvalidDeed, [None, True, 0, "", (), ((0, 1, 0),), (0, 1, 0), {}]),
    "marks": (errors.InvalidWishes, WRONG_MARKS),
    "third": (errors.InvalidCompany, helper.WRONG_COMPANIES),
    "ties": (errors.InvalidCompany, WRONG_TIES),
    "count": (errors.InvalidNumber, WRONG_COUNTS),
    "people": (errors.InvalidNumber, WRONG_COUNTS),
    "number": (errors.InvalidNumber, WRONG_COUNTS),
    "kind": (errors.InvalidNumber, WRONG_KIND),
    "person": (errors.InvalidPerson, WRONG_PERSONS),
    "second": (errors.InvalidCouple, helper.WRONG_COUPLES),
    "prices": (errors.InvalidPrices, WRONG_PRICES),
    "tolls": (errors.InvalidPrices, WRONG_TOLLS),
    "wishes": (errors.InvalidWishes, WRONG_WISHES),
    "others": (errors.InvalidWishes, WRONG_WISHES),
    "program": (errors.InvalidProgram, WRONG_PROGRAMS),
    "other program": (errors.InvalidProgram, WRONG_PROGRAMS),
    "state lot": (errors.InvalidLot, WRONG_STATE_LOTS),
    "state": (errors.InvalidWishes, WRONG_STATES),
    "times": (errors.InvalidNumber, WRONG_COUNTS),
    "program of three": (errors.InvalidProgram, WRONG_PROGRAMS),
    "many": (errors.InvalidNumber, WRONG_COUNTS),
    "family": (errors.InvalidWishes, WRONG_FAMILIES),
    "league": (errors.InvalidLeague, helper.WRONG_COMPANIES),
    "other league": (errors.InvalidLeague, helper.WRONG_COMPANIES),
    "loser": (errors.InvalidPerson, WRONG_PERSONS + [3]),
    "couple who stand alike": (errors.InvalidCouple, helper.WRONG_COUPLES + [(0, 2)]),
    "league number": (errors.InvalidNumber, WRONG_COUNTS + [120]),
    "line": (errors.InvalidLine, WRONG_LINES),
    "book": (errors.InvalidDeed, [value for value in NO_BOOKS if not isinstance(value, Exception)]),
}

# Nothing may be refused with these.
GOOD = {
    "kinds": 2, "company": FIVE, "couple": (0, 1), "lot": [0, 1, 3], "order": [4, 2, 0, 1, 3], "one": FIVE,
    "other": [[], [0], [1, 1], [0, 0, 0], [0, 0, 0, 0]], "deed": (0, 1, 0), "road": [(0, 1, 0), (3, 4, 0)],
    "marks": [(0, 2, 0), (3, 4, 1)], "third": [[], [1], [1, 0], [0, 0, 0], [0, 0, 0, 0]], "ties": [1, 1, 0, 0, 1],
    "count": 6, "people": 5, "number": 3, "kind": 1, "person": 3, "second": (1, 2), "prices": PRICES,
    "tolls": [[0, 3], [2, 9]], "wishes": [(0, 1, 0), (3, 4, 1)], "others": [(0, 2, 1)],
    "program": [(0, 1), (1, 2), (2, 4)], "other program": [(3, 4), (1, 2)], "state lot": [0, 2, 5],
    "state": [(0, 5, 1)], "times": helper.THIRTY_FIGURES, "program of three": [(0, 1), (1, 2), (0, 1), (0, 2)],
    "many": 3, "family": FAMILY, "league": [[], [0], [0, 0], [0, 0, 0], [0, 0, 0, 0]],
    "other league": [[], [1], [1, 1], [0, 1, 0], [0, 0, 0, 0]], "loser": 0, "couple who stand alike": (0, 1),
    "line": "2:1,01", "book": CompanyBook(2, FIVE), "turns": [(0, 1), (0, 1)], "step": ("come", [1, 0, 1, 0, 1]),
    "league number": 100,
}
SAMPLES = [
    GOOD,
    {
        "kinds": 3, "company": [[], [1], [0, 1], [0, 0, 1], [1, 2, 1, 0]], "couple": (1, 4), "lot": [1, 3, 4],
        "order": [0, 1, 2, 3, 4], "one": [[], [1], [0, 1], [0, 0, 1], [1, 2, 1, 0]],
        "other": [[], [1], [0, 2], [0, 0, 1], [1, 0, 1, 0]], "deed": (1, 4, 0), "road": [(1, 4, 0), (1, 4, 1)],
        "marks": [(1, 4, 0)], "number": 2, "kind": 2, "person": 4, "second": (0, 4),
        "prices": [[[1, 0, -2] for _ in range(person)] for person in range(5)],
        "tolls": [[1, 2, 3], [3, 2, 1], [0, 0, 0]], "wishes": [(0, 1, 1), (1, 4, 2)], "others": [(1, 4, 1)],
        "program": [(1, 4), (0, 1), (1, 4)], "other program": [(1, 4), (1, 4)], "state lot": [1, 2, 4, 38, 39],
        "state": [(1, 4, 2), (38, 39, 1)], "times": 7, "program of three": [(0, 1)] * 5 + [(1, 2)], "many": 4,
        "family": [[2, 0, 1], [0, 1, 2], [1, 2, 0], [1, 2, 0, 3, 4, 5, 6]],
        "league": [[], [0], [0, 0], [0, 1, 0], [0, 0, 0, 0]],
        "other league": [[], [0], [0, 0], [0, 1, 0], [0, 1, 1, 1]], "loser": 2, "line": "3:2,01",
        "book": CompanyBook(3, [[], [1], [0, 1], [0, 0, 1], [1, 2, 1, 0]]), "turns": [(0, 4)],
        "step": ("rename", [4, 1, 0, 3, 2]), "league number": 0,
    },
    {
        "kinds": 9, "company": [[]], "lot": [0], "order": [0], "one": [[]], "other": [[]], "road": [], "marks": [],
        "third": [[]], "ties": [8], "count": 300, "people": 0, "number": 0, "kind": 8, "person": 0, "prices": [[]],
        "tolls": [[0] * 9 for _ in range(9)], "wishes": [], "others": [], "program": [], "other program": [],
        "state lot": [39], "state": [], "times": 0, "program of three": [], "many": 0,
        "league": [[]], "other league": [[]], "line": "9:", "book": CompanyBook(9, [[]]), "turns": [],
        "step": ("come", [8]), "league number": 0,
    },
    {
        "kinds": 9, "company": [[], [8]], "couple": (0, 1), "lot": [0, 1], "order": [1, 0], "one": [[], [8]],
        "other": [[], [0]], "deed": (0, 1, 7), "road": [(0, 1, 7), (0, 1, 8), (0, 1, 3)], "marks": [(0, 1, 5)],
        "third": [[], [3]], "ties": [5, 5], "people": 300, "number": 8, "kind": 3, "person": 1,
        "prices": [[], [[0, 1, 2, -3, 4, 5, 6, 7, -3]]], "tolls": [[here] * 9 for here in range(9)],
        "wishes": [(0, 1, 7)], "others": [(0, 1, 6)], "program": [(0, 1)], "other program": [(0, 1)] * 10,
        "state lot": [0, 1], "state": [(0, 1, 8)], "times": 13, "program of three": [(1, 2)] * 3, "many": 1,
        "league": [[], [1]], "other league": [[], [0]], "loser": 0, "couple who stand alike": (0, 1), "line": "9:8",
        "book": CompanyBook(9, [[], [8]]), "turns": [(0, 1)], "step": ("tie", (0, 1, 3)), "league number": 1,
    },
    {
        "kinds": 2, "company": helper.layered([4, 2, 3]), "couple": (0, 3), "lot": [0, 3, 8], "order": list(range(9)),
        "one": helper.layered([4, 2, 3]), "other": helper.row_of_friends(9), "deed": (0, 1, 1), "road": [(0, 1, 1)],
        "marks": [], "number": 19, "kind": 0, "person": 8, "second": (0, 1),
        "prices": [[[person, before] for before in range(person)] for person in range(9)],
        "wishes": [(0, 1, 1), (2, 3, 0), (4, 5, 0)], "others": [(2, 3, 0), (6, 7, 1)],
        "program": [(0, 1), (1, 3), (7, 8), (0, 1)], "other program": [(0, 1), (7, 8), (1, 3), (0, 1)],
        "state lot": [3, 5, 7, 9, 11, 13], "state": [(3, 13, 1), (7, 9, 1)], "times": 3,
        "program of three": [(1, 2), (0, 1)], "many": 2, "league": helper.layered([4, 2, 3]),
        "other league": [[0] * person for person in range(9)], "loser": 7, "couple who stand alike": (4, 5),
        "line": "2:1,11,000,0001", "book": CompanyBook(2, helper.layered([4, 2, 3])), "turns": [(0, 1)],
        "step": ("go", 8), "league number": 9999,
    },
]
VALUES = {
    "is_company": "company", "is_deed": "deed", "is_road": "road", "is_parting_lot": "lot", "is_shortest": "road",
    "is_between": "other", "is_member": "other", "is_cheapest": "other", "is_refusing": "lot", "is_meeting": "other",
    "is_program": "program", "is_told": "family", "is_league": "league", "is_league_road": "turns", "is_step": "step",
}


def landed():
    """Each function of the interface, with the names of its parameters."""
    for module, rows in INTERFACE.items():
        for row in rows:
            name, names = row.rstrip(")").split("(")
            yield module, getattr(importlib.import_module(module), name), names.split(", ")


def meaning(function, name):
    """What a parameter of a function stands for."""
    return VALUES[function.__name__] if name == "value" else MEANINGS.get((function.__module__, name), name)


def wrong_for(function, name):
    """The error that a parameter is refused with and values that are refused; None for one that takes any value."""
    return None if name == "value" else WRONG.get(meaning(function, name))


def arguments_for(function, names, sample):
    """The arguments of a sample, None if it has not all that the function needs."""
    wanted = [meaning(function, name) for name in names]
    if any(name not in sample for name in wanted):
        return None
    # The companies of a sample are joined exactly if it has ties for a person who comes.
    if function.__name__ == "how_many_stay" and "ties" not in sample:
        return None
    if function.__name__ == "word_of" and len(sample["lot"]) != 3:
        return None
    if function.__name__ in ("how_many_classes", "how_many_alone") and not 1 <= sample["people"] <= 40:
        return None
    return [deepcopy(sample[name]) for name in wanted]


def calls():
    """Each function with the names of its parameters and with arguments of every sample that fits."""
    for _, function, names in landed():
        for sample in SAMPLES:
            arguments = arguments_for(function, names, sample)
            if arguments is not None:
                yield function, names, arguments


class InterfaceTest(unittest.TestCase):
    def test_each_function_stands_in_its_file_with_its_parameters(self):
        for module, function, names in landed():
            self.assertTrue(inspect.isfunction(function))
            self.assertEqual(function.__module__, module)
            parameters = inspect.signature(function).parameters.values()
            self.assertEqual([parameter.name for parameter in parameters], names, function)
            for parameter in parameters:
                self.assertIs(parameter.default, inspect.Parameter.empty)
                self.assertIs(parameter.kind, inspect.Parameter.POSITIONAL_OR_KEYWORD)

    def test_arguments_are_passed_by_position_or_by_name(self):
        for function, names, arguments in calls():
            by_name = function(**dict(zip(names, arguments)))
            self.assertEqual(function(*arguments), by_name)


class RefusalTest(unittest.TestCase):
    def good(self, function, names):
        return arguments_for(function, names, GOOD)

    def test_each_wrong_argument_is_told(self):
        for _, function, names in landed():
            for place, name in enumerate(names):
                error, values = wrong_for(function, name) or (None, [])
                for wrong in values:
                    with self.subTest(function=function.__name__, name=name, wrong=wrong):
                        arguments = self.good(function, names)
                        arguments[place] = wrong
                        helper.refusal(self, error, wrong, function, *arguments)

    def test_of_two_wrong_arguments_the_one_ahead_is_told(self):
        for _, function, names in landed():
            told = [name for name in names if wrong_for(function, name)]
            for place, name in enumerate(told):
                error, values = wrong_for(function, name)
                for behind in told[place + 1:]:
                    for wrong in values:
                        for also in wrong_for(function, behind)[1][:3]:
                            arguments = dict(zip(names, self.good(function, names)))
                            arguments[name] = wrong
                            arguments[behind] = also
                            helper.refusal(self, error, wrong, function, **arguments)

    def test_with_any_value_the_other_arguments_are_checked_first(self):
        for _, function, names in landed():
            if "value" in names:
                for name in names[:-1]:
                    for value in helper.ANYTHING:
                        arguments = dict(zip(names, self.good(function, names)))
                        error, values = wrong_for(function, name)
                        arguments[name] = values[-1]
                        arguments["value"] = value
                        helper.refusal(self, error, values[-1], function, **arguments)

    def test_unlike_numbers_of_people_are_told_behind_both(self):
        four = [[], [0], [0, 0], [0, 0, 0]]
        for _, function, names in landed():
            if "other" in [meaning(function, name) for name in names if name != "value"]:
                arguments = dict(zip(names, self.good(function, names)))
                for one, other in ((FIVE, four), (four, FIVE), ([[]], FIVE), (FIVE, [[]])):
                    arguments["one"] = one
                    arguments["other"] = other
                    helper.refusal(self, errors.Unlike, other, function, **arguments)
                    for wrong in WRONG["kinds"][1]:
                        helper.refusal(self, errors.InvalidNumber, wrong, function, **{**arguments, "kinds": wrong})
                    for name in ("lot", "tolls"):
                        for wrong in WRONG[name][1] if name in names else []:
                            helper.refusal(self, errors.Unlike, other, function, **{**arguments, name: wrong})

    def test_a_company_of_more_kinds_is_refused(self):
        more = [[], [1], [1, 1], [0, 0, 0], [0, 0, 0, 2]]
        for _, function, names in landed():
            for place, name in enumerate(names):
                if name != "value" and meaning(function, name) in ("company", "one", "other"):
                    arguments = self.good(function, names)
                    arguments[place] = more
                    helper.refusal(self, errors.InvalidCompany, more, function, *arguments)
                    if "prices" not in names and "tolls" not in names:
                        arguments[0] = 3
                        function(*arguments)

    def test_any_value_is_taken_where_it_is_judged(self):
        for _, function, names in landed():
            if "value" in names:
                arguments = self.good(function, names)
                for value in helper.ANYTHING:
                    arguments[-1] = value
                    with self.subTest(function=function.__name__, value=value):
                        self.assertIs(function(*arguments), False)


class MannersTest(unittest.TestCase):
    def test_arguments_stay_as_they_were(self):
        for function, names, arguments in calls():
            before = deepcopy(arguments)
            function(*arguments)
            self.assertEqual(arguments, before, function)

    def test_arguments_stay_as_they_were_when_they_are_refused(self):
        for _, function, names in landed():
            for place, name in enumerate(names):
                for wrong in (wrong_for(function, name) or (None, []))[1]:
                    arguments = arguments_for(function, names, GOOD)
                    arguments[place] = deepcopy(wrong)
                    before = deepcopy(arguments)
                    with self.assertRaises(errors.TieError):
                        function(*arguments)
                    self.assertEqual(arguments, before)

    def test_no_list_occurs_twice_in_a_result_or_comes_from_an_argument(self):
        for function, names, arguments in calls():
            result = function(*arguments)
            found = [id(one) for one in helper.lists_in(result) + helper.lists_in(arguments)]
            self.assertEqual(len(set(found)), len(found), function)

    def test_results_are_made_of_plain_values(self):
        for function, names, arguments in calls():
            result = function(*arguments)
            self.assertTrue(helper.plain(result), function)
            if "value" in names:
                self.assertIs(type(result), bool)

    def test_changing_a_result_changes_no_later_answer(self):
        for function, names, arguments in calls():
            first = function(*arguments)
            kept = deepcopy(first)
            for one in helper.lists_in(first):
                one.clear()
            self.assertEqual(function(*arguments), kept, function)

    def test_changing_an_argument_afterwards_changes_no_result(self):
        for function, names, arguments in calls():
            result = function(*arguments)
            kept = deepcopy(result)
            for one in helper.lists_in(arguments):
                one.append("changed")
            self.assertEqual(result, kept, function)


if __name__ == "__main__":
    unittest.main()
