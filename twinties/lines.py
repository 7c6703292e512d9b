"""Lines of text that tell kinds and a company ([70])."""

from twinties.checks import LEAST_KINDS, MOST_KINDS, MOST_PEOPLE, check_company
from twinties.errors import InvalidLine

FIGURES = "0123456789"


def kinds_told(figure):
    """The kinds that a figure tells, None if it tells none."""
    kinds = FIGURES.find(figure)
    return kinds if LEAST_KINDS <= kinds <= MOST_KINDS else None


def company_told(kinds, words):
    """The company of so many kinds that has the ties of the words, one for each person from 1 on; None without one."""
    company = [[]]
    for word in words:
        row = [FIGURES.find(figure) for figure in word]
        if len(row) != len(company) or not all([0 <= kind < kinds for kind in row]):
            return None
        company.append(row)
    return company if len(company) <= MOST_PEOPLE else None


def told_by(line):
    """The tuple `(kinds, company)` that has a line, None if it is the line of none."""
    if not isinstance(line, str) or line[1:2] != ":":
        return None
    kinds = kinds_told(line[0])
    if kinds is None:
        return None
    company = company_told(kinds, line[2:].split(",") if len(line) > 2 else [])
    return None if company is None else (kinds, company)


def line_of(kinds, company):
    """The line of kinds and a company."""
    check_company(kinds, company)
    return f"{kinds}:" + ",".join(["".join([str(kind) for kind in row]) for row in company[1:]])


def of_line(line):
    """The tuple `(kinds, company)` that has a line."""
    told = told_by(line)
    if told is None:
        raise InvalidLine(line)
    return told
