"""[45] to [47]: what companies cost, and the cheapest of a class."""

import unittest
from functools import lru_cache
from random import Random

from tests import helper
from tests.test_letdown import small_classes
from tests.test_roads import member_by_chance
from twinties.errors import InvalidCompany, InvalidNumber, InvalidPrices
from twinties.groups import groups_of, marked
from twinties.letdown import are_joined, base_of
from twinties.prices import cheapest, how_many_cheapest, is_cheapest, price_of

THREE, PRICES = [[], [1], [1, 1]], [[], [[5, 1]], [[2, 4], [7, 3]]]
ROW, EVEN = [[], [1], [0, 1], [0, 0, 1]], [[], [[1, 1]], [[1, 1], [1, 1]], [[1, 1], [1, 1], [1, 1]]]


def some_classes():
    yield from small_classes()
    for web in helper.webs():
        yield web.kinds, web.members


def prices_by_chance(rng, kinds, people, low, high):
    return [[[rng.randint(low, high) for _ in range(kinds)] for _ in range(person)] for person in range(people)]


def cost(company, prices):
    return sum(prices[high][low][kind] for high, row in enumerate(company) for low, kind in enumerate(row))


def least_by_gains(people, base, prices, kinds):
    """The least price of a group with a base and in how many ways it has it, going through its couples."""
    whole = sum(prices[high][low][base] for high in people for low in people if low < high)

    @lru_cache(None)
    def most(left):
        if len(left) < 2:
            return 0, 1
        first, rest = left[0], left[1:]
        found = [most(rest)]
        for other in rest:
            gain, ways = most(tuple(one for one in rest if one != other))
            told = prices[other][first]
            found.extend((gain + told[base] - told[kind], ways) for kind in range(kinds) if kind != base)
        best = max(gain for gain, _ in found)
        return best, sum(ways for gain, ways in found if gain == best)

    gain, ways = most(tuple(people))
    return whole - gain, ways


class ExamplesTest(unittest.TestCase):
    def test_prices(self):
        self.assertEqual(
            [price_of(2, THREE, PRICES), cheapest(2, THREE, PRICES), how_many_cheapest(2, THREE, PRICES),
             is_cheapest(2, THREE, PRICES, [[], [1], [0, 1]])],
            [8, (6, [[], [1], [0, 1]]), 1, True],
        )
        self.assertEqual(cheapest(2, [[], [1]], [[], [[4, 9]]]), (4, [[], [0]]))
        self.assertEqual(
            [cheapest(2, ROW, EVEN), how_many_cheapest(2, [[], [0], [0, 0], [0, 0, 0]], EVEN)], [(6, ROW), 10],
        )


class PricesTest(unittest.TestCase):
    def test_the_price_of_a_company(self):
        rng = Random(45)
        for kinds, members in some_classes():
            prices = prices_by_chance(rng, kinds, len(members[0]), -10 ** 29, 10 ** 29)
            for company in members[:5]:
                self.assertEqual(price_of(kinds, company, prices), cost(company, prices))
        self.assertEqual([price_of(9, [[]], [[]]), cheapest(9, [[]], [[]]), how_many_cheapest(9, [[]], [[]])],
                         [0, (0, [[]]), 1])

    def test_the_cheapest_of_a_class(self):
        rng = Random(46)
        for kinds, members in some_classes():
            # Prices of which many are equal, prices that hardly are, and prices that are all the same.
            for low, high in ((0, 1), (-2, 1), (-100, 100), (-10 ** 29, 10 ** 29), (3, 3)):
                prices = prices_by_chance(rng, kinds, len(members[0]), low, high)
                costs = [cost(company, prices) for company in members]
                least = min(costs)
                for company in (members[0], members[-1]):
                    price, member = cheapest(kinds, company, prices)
                    self.assertEqual(price, least)
                    self.assertIn(member, members)
                    self.assertEqual(cost(member, prices), least)
                    self.assertEqual(how_many_cheapest(kinds, company, prices), costs.count(least))
                for company, told in list(zip(members, costs))[:30]:
                    self.assertIs(is_cheapest(kinds, members[0], prices, company), told == least)

    def test_a_company_that_is_not_joined_is_not_the_cheapest(self):
        for value in ([[], [0], [0, 0]], [[]], [[], [1]], [[], [1], [0, 2]], ([], [1], [0, 1]), None, 6, (6, THREE)):
            self.assertIs(is_cheapest(2, THREE, PRICES, value), False)
        even = EVEN[:3]
        self.assertIs(is_cheapest(2, THREE, even, [[], [0], [0, 0]]), False)
        self.assertIs(is_cheapest(2, THREE, even, [[], [0], [1, 1]]), True)

    def test_all_kinds_that_cost_least_count(self):
        self.assertEqual(how_many_cheapest(4, [[], [0]], [[], [[2, 1, 1, 1]]]), 3)
        self.assertEqual(how_many_cheapest(4, [[], [0], [0, 0]], [[], [[5, 1, 1, 2]], [[0, 1, 1, 1], [0, 9, 0, 0]]]), 2)
        self.assertEqual(how_many_cheapest(4, [[], [0], [0, 0]], [[], [[0, 0, 0, 1]], [[0, 0, 1, 1], [0, 0, 0, 0]]]), 7)

    def test_wrong_prices_are_told(self):
        good = [[], [[5, 1]], [[2, 4], [7, 3]]]
        for wrong in (
            None, True, 0, "", (), [], {}, [[]], good[:2], good + [[[0, 0]] * 3], tuple(good), [(), *good[1:]],
            [[], ([5, 1],), good[2]], [[], [(5, 1)], good[2]], [[], [[5]], good[2]], [[], [[5, 1, 2]], good[2]],
            [[], [[5, True]], good[2]], [[], [[None, 1]], good[2]], [[], [["5", 1]], good[2]], [[[0, 0]], *good[1:]],
            [[], [[5, 1]], [[2, 4]]], [[], [[5, 1]], [[2, 4], [7, 3], [1, 1]]], [[], [], [[2, 4], [7, 3]]],
        ):
            for function in (price_of, cheapest, how_many_cheapest):
                helper.refusal(self, InvalidPrices, wrong, function, 2, THREE, wrong)
                helper.refusal(self, InvalidCompany, None, function, 2, None, wrong)
                helper.refusal(self, InvalidNumber, (), function, (), None, wrong)
            helper.refusal(self, InvalidPrices, wrong, is_cheapest, 2, THREE, wrong, THREE)
            helper.refusal(self, InvalidPrices, wrong, is_cheapest, 2, THREE, wrong, None)
            helper.refusal(self, InvalidCompany, None, is_cheapest, 2, None, wrong, None)
        # The right prices for two kinds are wrong ones for three.
        helper.refusal(self, InvalidPrices, good, price_of, 3, THREE, good)


class LimitsTest(unittest.TestCase):
    def check_class(self, rng, kinds, company, low, high):
        prices = prices_by_chance(rng, kinds, len(company), low, high)
        base = base_of(kinds, company)
        least, many = cost(base, prices), 1
        for people, kind in groups_of(kinds, company):
            if kind is None:
                told = prices[people[1]][people[0]]
                least, many = least - told[0] + min(told), many * told.count(min(told))
            else:
                price, ways = least_by_gains(people, kind, prices, kinds)
                inner = sum(prices[high][low][kind] for high in people for low in people if low < high)
                least, many = least - inner + price, many * ways
        price, member = cheapest(kinds, company, prices)
        self.assertEqual([price, cost(member, prices)], [least, least])
        self.assertTrue(are_joined(kinds, company, member))
        self.assertEqual(how_many_cheapest(kinds, company, prices), many)
        self.assertIs(is_cheapest(kinds, company, prices, member), True)
        self.assertIs(is_cheapest(kinds, company, prices, company), cost(company, prices) == least)

    def test_forty_people_in_groups_of_twelve(self):
        rng = Random(47)
        for kinds in (2, 3, 9):
            for sizes in ([12, 12, 12, 4], [2, 11, 12, 3, 12], [1, 5, 7, 9, 11, 7]):
                for low, high in ((0, 2), (-1000, 1000)):
                    company = member_by_chance(rng, kinds, helper.layered(sizes))
                    self.check_class(rng, kinds, company, low, high)
            self.check_class(rng, kinds, helper.layered([12, 12, 12, 4]), 7, 7)

    def test_forty_people_with_told_knots(self):
        rng = Random(48)
        for kinds in range(2, 10):
            grower = helper.Grower(kinds, rng)
            company, _ = grower.shuffled(*grower.grown(grower.tree(40)))
            if all(len(people) <= 12 for people, _ in groups_of(kinds, company)):
                self.check_class(rng, kinds, company, -9, 9)

    def test_somewhat_more_than_twelve(self):
        rng = Random(49)
        same = [[0] * person for person in range(14)]
        self.check_class(rng, 2, same, -50, 50)
        self.check_class(rng, 3, marked(3, same, [(0, 13, 2), (4, 5, 1)]), -1, 1)


if __name__ == "__main__":
    unittest.main()
