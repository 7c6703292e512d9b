"""A book that keeps a company through steps, which can be undone ([71] to [73])."""

from twinties.checks import MOST_PEOPLE, check_company, is_below, is_order, is_row
from twinties.companies import company_among, company_in_order, couples_unlike, is_deed_now, ties_of
from twinties.errors import InvalidDeed, NothingToRedo, NothingToUndo
from twinties.letdown import groups_let_down, is_of_class


def rows_copied(company):
    """A company like this one, of lists of its own."""
    return [list(row) for row in company]


def step_copied(step):
    """A step like this one, without a list of the caller's."""
    word, told = step
    return (word, list(told)) if isinstance(told, list) else step


def is_step_now(kinds, company, value):
    """Whether a value is a step that can be done with a company."""
    if not isinstance(value, tuple) or len(value) != 2 or not isinstance(value[0], str):
        return False
    word, told = value
    many = len(company)
    if word == "tie":
        return is_deed_now(kinds, ties_of(company), told)
    if word == "come":
        return many < MOST_PEOPLE and is_row(kinds, many, told)
    if word == "go":
        return many > 1 and is_below(told, many)
    return word == "rename" and is_order(many, told)


def behind_step(company, step):
    """The company behind a step; rows that stay as they are may be those of the company itself."""
    word, told = step
    if word == "tie":
        low, high, kind = told
        behind = list(company)
        behind[high] = list(company[high])
        behind[high][low] = kind
        return behind
    if word == "come":
        return company + [list(told)]
    if word == "go":
        return company_among(company, [person for person in range(len(company)) if person != told])
    return company_in_order(company, told)


def check_book(value):
    """Refuse what is no book."""
    if not isinstance(value, CompanyBook):
        raise InvalidDeed(value)


class CompanyBook:
    """Kinds and a company that is changed by steps.

    The companies ahead of all steps are kept with them. None of their rows is ever changed, so they can be shared, by
    the copies of a book, too.
    """

    def __init__(self, kinds, company):
        check_company(kinds, company)
        self._kinds = kinds
        self._company = rows_copied(company)
        self._done = []
        self._undone = []

    def __eq__(self, other):
        if not isinstance(other, CompanyBook):
            return False
        if self._kinds != other._kinds or self._company != other._company:
            return False
        return [step for step, _ in self._done] == [step for step, _ in other._done]

    def kinds(self):
        """How many kinds there are."""
        return self._kinds

    def company(self):
        """The company that is kept now."""
        return rows_copied(self._company)

    def do(self, step):
        """Do a step, and forget what was undone."""
        if not is_step_now(self._kinds, self._company, step):
            raise InvalidDeed(step)
        self._done.append((step_copied(step), self._company))
        self._company = behind_step(self._company, step)
        self._undone = []

    def undo(self):
        """Take back the last step that is not taken back yet."""
        if not self._done:
            raise NothingToUndo()
        step, company = self._done.pop()
        self._undone.append((step, self._company))
        self._company = company

    def redo(self):
        """Do again what was taken back last."""
        if not self._undone:
            raise NothingToRedo()
        step, company = self._undone.pop()
        self._done.append((step, self._company))
        self._company = company

    def log(self):
        """The list of the steps that are done and not taken back, the first one first."""
        return [step_copied(step) for step, _ in self._done]

    def copy(self):
        """A book that is equal to this one and goes its own way from now on."""
        twin = CompanyBook(self._kinds, self._company)
        twin._done = list(self._done)
        twin._undone = list(self._undone)
        return twin

    def groups(self):
        """The groups of the company."""
        return groups_let_down(self._company)

    def joined(self, other):
        """Whether the company of another book is joined with this one's."""
        check_book(other)
        if other._kinds != self._kinds or len(other._company) != len(self._company):
            return False
        return is_of_class(self._company, groups_let_down(self._company), other._company)

    def far(self, other):
        """How many deeds lead from this company to that of another book at least, None if they are not joined."""
        return len(couples_unlike(self._company, other._company)) if self.joined(other) else None


def is_step(book, value):
    """Whether a value is a step that a book can do now."""
    check_book(book)
    return is_step_now(book._kinds, book._company, value)
