"""In how many orders numbers go up and down by turns, in a row and in a ring ([29])."""

from itertools import accumulate

from twinties.checks import check_count, is_count
from twinties.errors import InvalidNumber


def ups_and_downs(count):
    """The zigzag number of a count.

    Each row of running sums goes back over the row ahead of it (the triangle of Seidel): this takes no products.
    """
    row = [1]
    for _ in range(count):
        row = list(accumulate([0] + row[::-1]))
    return row[-1]


def zigzag_number(count):
    """In how many orders the numbers from 1 to a count go up, down, up and so on."""
    check_count(count)
    return ups_and_downs(count)


def ring_number(count):
    """In how many orders the numbers stand in a ring such that those at even places are less than their neighbours."""
    if not is_count(count) or count < 4 or count % 2 == 1:
        raise InvalidNumber(count)
    return count * ups_and_downs(count - 1) // 2
