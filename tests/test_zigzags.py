"""[29]: zigzag numbers and ring numbers."""

import unittest
from itertools import permutations
from math import comb

from tests import helper
from twinties.errors import InvalidNumber
from twinties.zigzags import ring_number, zigzag_number


def zigzags_by_definition(count):
    return sum(
        all((row[at] < row[at + 1]) == (at % 2 == 0) for at in range(count - 1)) for row in permutations(range(count))
    )


def rings_by_definition(count):
    return sum(
        all(row[at] < row[at - 1] and row[at] < row[(at + 1) % count] for at in range(0, count, 2))
        for row in permutations(range(count))
    )


class ExamplesTest(unittest.TestCase):
    def test_zigzags_and_rings(self):
        self.assertEqual(
            [[zigzag_number(count) for count in range(8)], ring_number(4), ring_number(6)],
            [[1, 1, 1, 2, 5, 16, 61, 272], 4, 48],
        )


class ZigzagsTest(unittest.TestCase):
    def test_by_definition(self):
        for count in range(9):
            self.assertEqual(zigzag_number(count), zigzags_by_definition(count))

    def test_half_of_the_sum_of_products(self):
        numbers = [zigzag_number(count) for count in range(60)]
        for count in range(2, 60):
            products = [numbers[at] * numbers[count - 1 - at] * comb(count - 1, at) for at in range(count)]
            self.assertEqual(2 * numbers[count], sum(products))

    def test_three_hundred_and_one_more(self):
        numbers = [zigzag_number(count) for count in range(302)]
        for count in (299, 300, 301):
            products = [numbers[at] * numbers[count - 1 - at] * comb(count - 1, at) for at in range(count)]
            self.assertEqual(2 * numbers[count], sum(products))

    def test_what_is_no_count_is_told(self):
        for wrong in (None, True, False, -1, -300, -helper.THIRTY_FIGURES, "3", "", (), (3,), [], [3], {}):
            helper.refusal(self, InvalidNumber, wrong, zigzag_number, wrong)


class RingsTest(unittest.TestCase):
    def test_by_definition(self):
        for count in (4, 6, 8):
            self.assertEqual(ring_number(count), rings_by_definition(count))

    def test_half_of_count_times_the_zigzag_number(self):
        for count in [*range(4, 62, 2), 298, 300, 302]:
            self.assertEqual(2 * ring_number(count), count * zigzag_number(count - 1))

    def test_what_is_no_even_number_from_four_on_is_told(self):
        odd = [1, 3, 5, 299, 301, helper.THIRTY_FIGURES + 1]
        for wrong in (None, True, False, 0, 2, -2, -4, *odd, -helper.THIRTY_FIGURES, "4", "", (), (4,), [], [4], {}):
            helper.refusal(self, InvalidNumber, wrong, ring_number, wrong)


if __name__ == "__main__":
    unittest.main()
