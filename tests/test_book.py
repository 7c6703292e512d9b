"""[71] to [73]: a live book."""

import inspect
import unittest
from copy import deepcopy
from random import Random

from tests import helper
from twinties.book import CompanyBook, is_step
from twinties.companies import among, deeds, done, renamed
from twinties.errors import InvalidCompany, InvalidDeed, InvalidNumber, NothingToRedo, NothingToUndo, TieError
from twinties.groups import groups_of
from twinties.letdown import are_joined
from twinties.roads import distance

START = [[], [1], [0, 0]]
METHODS = {
    "kinds": [], "company": [], "do": ["step"], "undo": [], "redo": [], "log": [], "copy": [], "groups": [],
    "joined": ["other"], "far": ["other"],
}
# For START.
WRONG_STEPS = [
    None, True, 0, "", "tie", (), [], {}, ("tie",), ("tie", (0, 1, 0), 0), ["tie", (0, 1, 0)], ("go", 0, 1), (None, 0),
    (0, (0, 1, 0)), ("", 0), ("tIe", (0, 1, 0)), ("undo", 0), ("redo", None), (("tie",), (0, 1, 0)),
    ("tie", None), ("tie", [0, 1, 0]), ("tie", (0, 1)), ("tie", (0, 1, 1)), ("tie", (0, 1, 2)), ("tie", (1, 2, 1)),
    ("tie", (1, 0, 0)), ("tie", (0, 3, 0)), ("tie", (0, 1, False)), ("tie", (False, 1, 0)), ("tie", [(0, 1, 0)]),
    ("come", None), ("come", [0, 0]), ("come", [0, 0, 0, 0]), ("come", (0, 0, 0)), ("come", [0, 0, 2]),
    ("come", [0, 0, -1]), ("come", [0, True, 0]), ("come", [0, None, 0]), ("come", "000"), ("come", []), ("come", 0),
    ("go", 3), ("go", -1), ("go", True), ("go", None), ("go", [0]), ("go", "0"), ("go", helper.THIRTY_FIGURES),
    ("rename", None), ("rename", [0, 1]), ("rename", [0, 1, 2, 3]), ("rename", [0, 1, 1]), ("rename", (0, 1, 2)),
    ("rename", [1, 2, 3]), ("rename", [0, True, 2]), ("rename", "012"), ("rename", 0), ("rename", []),
]
NO_BOOKS = [None, True, 2, "", (), (2, START), [], START, {}, TieError(), CompanyBook]


class Told:
    """What a book has to be, kept as plainly as can be: the companies ahead of all steps, too."""

    def __init__(self, kinds, company):
        self.kinds = kinds
        self.rows = [company]
        self.steps = []
        self.back = []

    def company(self):
        return self.rows[-1]

    def do(self, step):
        word, told = step
        company = self.company()
        if word == "tie":
            behind = done(self.kinds, company, told)
        elif word == "come":
            behind = [list(row) for row in company] + [list(told)]
        elif word == "go":
            behind = among(self.kinds, company, [person for person in range(len(company)) if person != told])
        else:
            behind = renamed(self.kinds, company, told)
        self.rows.append(behind)
        self.steps.append(deepcopy(step))
        self.back = []

    def undo(self):
        self.back.append((self.steps.pop(), self.rows.pop()))

    def redo(self):
        step, company = self.back.pop()
        self.steps.append(step)
        self.rows.append(company)


def step_by_chance(rng, kinds, company):
    """A step that can be done; deeds as often as all others."""
    many = len(company)
    steps = [("rename", rng.sample(range(many), many))]
    if many < 40:
        steps.append(("come", [rng.randrange(kinds) if rng.random() < 0.3 else 0 for _ in range(many)]))
    if many > 1:
        steps.append(("go", rng.randrange(many)))
    ties = [("tie", deed) for deed in deeds(kinds, company)]
    return rng.choice(ties) if ties and rng.random() < 0.5 else rng.choice(steps)


class ExamplesTest(unittest.TestCase):
    def test_a_book(self):
        book = CompanyBook(2, [[], [1], [0, 0]])
        self.assertEqual(
            [is_step(book, ("tie", (0, 1, 0))), is_step(book, ("tie", (1, 2, 1))), is_step(book, ("come", [1, 1])),
             is_step(book, ("go", 3))],
            [True, False, False, False],
        )
        book.do(("tie", (0, 1, 0)))
        book.do(("tie", (1, 2, 1)))
        self.assertEqual(
            [book.company(), book.joined(CompanyBook(2, [[], [1], [0, 0]])), book.far(CompanyBook(2, [[], [1], [0, 0]])),
             book.far(CompanyBook(2, [[], [1], [1, 1]]))],
            [[[], [0], [0, 1]], True, 2, None],
        )
        book.undo()
        book.do(("come", [0, 1, 0]))
        book.do(("go", 0))
        book.do(("rename", [1, 2, 0]))
        self.assertEqual([book.company(), len(book.log()), book == book.copy()], [[[], [0], [0, 1]], 4, True])


class InterfaceTest(unittest.TestCase):
    def test_each_method_stands_in_the_class_itself(self):
        self.assertEqual(CompanyBook.__module__, "twinties.book")
        self.assertEqual(list(inspect.signature(CompanyBook).parameters), ["kinds", "company"])
        for name, names in METHODS.items():
            method = CompanyBook.__dict__[name]
            self.assertEqual(list(inspect.signature(method).parameters), ["self"] + names)
        self.assertEqual(list(inspect.signature(is_step).parameters), ["book", "value"])
        book = CompanyBook(company=START, kinds=2)
        book.do(step=("go", 0))
        self.assertEqual([book.joined(other=book.copy()), book.far(other=book)], [True, 0])
        self.assertIs(is_step(value=("go", 0), book=book), True)

    def test_wrong_kinds_and_companies(self):
        for wrong in helper.WRONG_KINDS:
            helper.refusal(self, InvalidNumber, wrong, CompanyBook, wrong, START)
            helper.refusal(self, InvalidNumber, wrong, CompanyBook, wrong, None)
        for wrong in helper.WRONG_COMPANIES:
            helper.refusal(self, InvalidCompany, wrong, CompanyBook, 2, wrong)

    def test_what_is_no_book(self):
        book = CompanyBook(2, START)
        for wrong in NO_BOOKS:
            helper.refusal(self, InvalidDeed, wrong, is_step, wrong, ("go", 0))
            helper.refusal(self, InvalidDeed, wrong, is_step, wrong, None)
            helper.refusal(self, InvalidDeed, wrong, book.joined, wrong)
            helper.refusal(self, InvalidDeed, wrong, book.far, wrong)


class StepsTest(unittest.TestCase):
    def test_a_book_is_what_its_steps_make_one_by_one(self):
        rng = Random(72)
        for kinds, company in helper.STARTS:
            book, told = CompanyBook(kinds, company), Told(kinds, company)
            for _ in range(60):
                chance = rng.random()
                if chance < 0.2 and told.steps:
                    self.assertIsNone(book.undo())
                    told.undo()
                elif chance < 0.35 and told.back:
                    self.assertIsNone(book.redo())
                    told.redo()
                else:
                    step = step_by_chance(rng, kinds, told.company())
                    self.assertIs(is_step(book, step), True)
                    self.assertIsNone(book.do(step))
                    told.do(step)
                self.assertEqual([book.kinds(), book.company(), book.log()], [kinds, told.company(), told.steps])
                again = CompanyBook(kinds, company)
                for step in book.log():
                    again.do(step)
                self.assertEqual(again.company(), book.company())
                self.assertTrue(again == book)

    def test_undo_and_redo_all(self):
        rng = Random(73)
        book = CompanyBook(3, START)
        companies = [book.company()]
        for _ in range(30):
            book.do(step_by_chance(rng, 3, book.company()))
            companies.append(book.company())
        log = book.log()
        for company in companies[-2::-1]:
            book.undo()
            self.assertEqual(book.company(), company)
        self.assertEqual(book.log(), [])
        with self.assertRaises(NothingToUndo):
            book.undo()
        for company in companies[1:]:
            book.redo()
            self.assertEqual(book.company(), company)
        self.assertEqual(book.log(), log)
        with self.assertRaises(NothingToRedo):
            book.redo()
        self.assertEqual([book.company(), book.log()], [companies[-1], log])

    def test_nothing_is_left(self):
        book = CompanyBook(2, START)
        for wrong, error in ((book.undo, NothingToUndo), (book.redo, NothingToRedo)):
            with self.assertRaises(error) as caught:
                wrong()
            self.assertIs(type(caught.exception), error)
        book.do(("go", 2))
        with self.assertRaises(NothingToRedo):
            book.redo()
        self.assertEqual([book.company(), book.log()], [[[], [1]], [("go", 2)]])

    def test_a_step_behind_an_undo_forgets_what_was_undone(self):
        book = CompanyBook(2, START)
        for person in (0, 0):
            book.do(("go", person))
        book.undo()
        book.undo()
        book.do(("tie", (0, 1, 0)))
        with self.assertRaises(NothingToRedo):
            book.redo()
        book.undo()
        # A step that cannot be done forgets nothing.
        with self.assertRaises(InvalidDeed):
            book.do(("go", 3))
        book.redo()
        self.assertEqual(book.log(), [("tie", (0, 1, 0))])

    def test_steps_that_cannot_be_done(self):
        book = CompanyBook(2, START)
        book.do(("tie", (0, 1, 0)))
        book.undo()
        for wrong in WRONG_STEPS:
            self.assertIs(is_step(book, wrong), False)
            helper.refusal(self, InvalidDeed, wrong, book.do, wrong)
            self.assertEqual([book.company(), book.log(), book.kinds()], [START, [], 2])
        for value in helper.ANYTHING:
            self.assertIs(is_step(book, value), False)
        book.redo()
        self.assertEqual(book.company(), [[], [0], [0, 0]])

    def test_one_person_and_forty(self):
        book = CompanyBook(9, [[]])
        for wrong in (("go", 0), ("tie", (0, 1, 1)), ("come", []), ("come", [0, 0]), ("rename", [])):
            self.assertIs(is_step(book, wrong), False)
            helper.refusal(self, InvalidDeed, wrong, book.do, wrong)
        book.do(("rename", [0]))
        for people in range(1, 40):
            step = ("come", [people % 9] * people)
            self.assertIs(is_step(book, step), True)
            book.do(step)
        self.assertEqual(len(book.company()), 40)
        wrong = ("come", [0] * 40)
        self.assertIs(is_step(book, wrong), False)
        helper.refusal(self, InvalidDeed, wrong, book.do, wrong)
        book.do(("rename", list(range(39, -1, -1))))
        book.do(("go", 17))
        for _ in range(42):
            book.undo()
        self.assertEqual([book.company(), book.log()], [[[]], []])


class GroupsTest(unittest.TestCase):
    def test_groups_joined_and_far_say_what_the_functions_say(self):
        rng = Random(74)
        books = []
        for kinds, company in helper.STARTS:
            book = CompanyBook(kinds, company)
            for _ in range(12):
                book.do(step_by_chance(rng, kinds, book.company()))
                self.assertEqual(book.groups(), groups_of(kinds, book.company()))
                other = book.copy()
                for deed in deeds(kinds, book.company())[:4]:
                    other = book.copy()
                    other.do(("tie", deed))
                    self.assertEqual(other.groups(), book.groups())
                books.append(other)
        for book in rng.sample(books, 60):
            for other in rng.sample(books, 60) + [book]:
                if book.kinds() == other.kinds() and len(book.company()) == len(other.company()):
                    one, two = book.company(), other.company()
                    self.assertIs(book.joined(other), are_joined(book.kinds(), one, two))
                    self.assertEqual(book.far(other), distance(book.kinds(), one, two))
                else:
                    self.assertIs(book.joined(other), False)
                    self.assertIsNone(book.far(other))

    def test_books_of_unlike_kinds_and_numbers_of_people(self):
        book = CompanyBook(2, START)
        for other in (CompanyBook(3, START), CompanyBook(2, [[], [1]]), CompanyBook(2, [[]])):
            self.assertEqual([book.joined(other), book.far(other), other.joined(book), other.far(book)],
                             [False, None, False, None])
        self.assertEqual([book.joined(book), book.far(book)], [True, 0])

    def test_far_through_many_deeds(self):
        rng = Random(75)
        company = helper.layered([12, 12, 12, 4])
        book = CompanyBook(2, company)
        for _ in range(60):
            book.do(("tie", rng.choice(deeds(2, book.company()))))
        start = CompanyBook(2, company)
        self.assertEqual([book.far(start), book.groups()], [distance(2, book.company(), company), start.groups()])
        self.assertIs(start.joined(book), True)


class CopiesTest(unittest.TestCase):
    def test_copies_go_their_own_ways(self):
        book = CompanyBook(2, START)
        book.do(("tie", (0, 1, 0)))
        book.do(("come", [0, 0, 1]))
        book.undo()
        twin = book.copy()
        self.assertIs(type(twin), CompanyBook)
        self.assertTrue(twin == book and twin is not book)
        twin.redo()
        self.assertEqual([twin.company(), book.company()], [[[], [0], [0, 0], [0, 0, 1]], [[], [0], [0, 0]]])
        self.assertFalse(twin == book)
        book.redo()
        self.assertTrue(twin == book)
        twin.undo()
        twin.undo()
        self.assertEqual([twin.company(), twin.log(), len(book.log())], [START, [], 2])
        book.do(("go", 1))
        twin.redo()
        self.assertEqual([twin.company(), book.company()], [[[], [0], [0, 0]], [[], [0], [0, 1]]])

    def test_equal_are_books_of_equal_kinds_companies_and_logs(self):
        book, other = CompanyBook(2, START), CompanyBook(2, START)
        self.assertTrue(book == other)
        self.assertFalse(book != other)
        self.assertFalse(book == CompanyBook(3, START))
        other.do(("tie", (0, 1, 0)))
        other.do(("tie", (0, 1, 1)))
        # The company is the same, the log is not.
        self.assertEqual(other.company(), book.company())
        self.assertFalse(book == other)
        other.undo()
        other.undo()
        # What can be done again does not matter.
        self.assertTrue(book == other)
        other.do(("rename", [0, 1, 2]))
        book.do(("rename", [0, 1, 2]))
        self.assertTrue(book == other)

    def test_a_book_is_equal_to_nothing_else(self):
        book = CompanyBook(2, START)
        for other in NO_BOOKS + helper.ANYTHING:
            self.assertIs(book == other, False)
            self.assertIs(book != other, True)

    def test_lists_belong_to_the_caller(self):
        company, ties, order = [[], [1], [0, 0]], [1, 0, 1], [3, 2, 1, 0]
        book = CompanyBook(2, company)
        company[1][0] = 0
        company.append([9])
        self.assertEqual(book.company(), START)
        book.do(("come", ties))
        book.do(("rename", order))
        kept = [book.company(), book.log(), book.groups()]
        ties.append(5)
        order.reverse()
        self.assertEqual([book.company(), book.log(), book.groups()], kept)
        for told in (book.company(), book.log(), book.groups(), book.copy().log()):
            for one in helper.lists_in(told):
                one.append("changed")
        self.assertEqual([book.company(), book.log(), book.groups()], kept)
        book.undo()
        self.assertEqual(book.company(), [[], [1], [0, 0], [1, 0, 1]])
        for one in helper.lists_in(book.company()):
            one.clear()
        book.redo()
        self.assertEqual(book.company(), kept[0])

    def test_refused_steps_stay_as_they_were(self):
        book = CompanyBook(2, START)
        for wrong in WRONG_STEPS:
            kept = deepcopy(wrong)
            with self.assertRaises(InvalidDeed):
                book.do(wrong)
            self.assertEqual(wrong, kept)

    def test_no_list_occurs_twice(self):
        book = CompanyBook(2, START)
        step = ("come", [0, 0, 0])
        book.do(step)
        book.undo()
        book.do(step)
        book.do(("rename", [0, 1, 2, 3]))
        found = [book.company(), book.company(), book.log(), book.log(), book.groups(), book.groups(), list(step)]
        lists = helper.lists_in(found)
        self.assertEqual(len({id(one) for one in lists}), len(lists))


if __name__ == "__main__":
    unittest.main()
