"""[48] to [50]: least prices by turned couples, stairs of fees, and prices of roads."""

import unittest
from heapq import heappop, heappush
from random import Random

from tests import helper
from tests.test_prices import EVEN, PRICES, ROW, THREE, cost, prices_by_chance, some_classes
from tests.test_roads import member_by_chance
from twinties.errors import InvalidCompany, InvalidNumber, InvalidPrices, Unlike
from twinties.groups import groups_of
from twinties.letdown import are_joined, base_of
from twinties.prices import cheapest
from twinties.stairs import fee_stairs, least_by_turned, road_price

WRONG_TOLLS = [
    None, True, 0, "", (), {}, [], [[]], [0, 1], [[0, 1]], [[0, 1], [1]], [[0], [1, 0]], [[0, 1], [1, 0], [1, 1]],
    [[0, 1, 1], [1, 0, 1]], ([0, 1], [1, 0]), [(0, 1), [1, 0]], [[0, 1], (1, 0)], [[0, -1], [1, 0]], [[-1, 1], [1, 0]],
    [[0, True], [1, 0]], [[0, 1], [None, 0]], [[0, 1], ["1", 0]], [[0, 1], [1, [0]]],
    [[0, 1], [1, -10 ** 29]],
]


def turned_couples(kinds, company):
    """How many couples of groups with a base have a tie that is not of the base."""
    return sum(
        company[high][low] != base for people, base in groups_of(kinds, company) if base is not None
        for high in people for low in people if low < high
    )


def least_by_the_class(kinds, members, prices):
    least = {}
    for company in members:
        many = turned_couples(kinds, company)
        price = cost(company, prices)
        least[many] = min(least.get(many, price), price)
    return [least[many] for many in range(len(least))]


def told_at(least, fee):
    """How many couples are turned in the cheapest company at a fee; of several numbers the least."""
    costs = [price + fee * many for many, price in enumerate(least)]
    return costs.index(min(costs))


def stairs_by_fees(least):
    """The stairs, trying all fees at which something can change, and those between."""
    gains = [ahead - behind for ahead in least for behind in least]
    fees = sorted({fee for gain in gains for fee in (gain - 1, gain, gain + 1) if fee >= 0} | {0})
    stairs = []
    for fee in fees:
        many = told_at(least, fee)
        if not stairs or stairs[-1][1] != many:
            stairs.append((fee, many, least[many]))
    return stairs


def cheapest_roads(web, start, tolls):
    """The least price of all roads from one company to each other one."""
    price = {}
    queue = [(0, start)]
    while queue:
        told, place = heappop(queue)
        if place not in price:
            price[place] = told
            for (low, high, kind), behind in web.steps[place]:
                heappush(queue, (told + tolls[web.members[place][high][low]][kind], behind))
    return price


class ExamplesTest(unittest.TestCase):
    def test_stairs(self):
        self.assertEqual(
            [least_by_turned(2, THREE, PRICES), fee_stairs(2, THREE, PRICES),
             least_by_turned(2, [[], [0]], [[], [[4, 9]]])],
            [[8, 6], [(0, 1, 6), (2, 0, 8)], [4]],
        )
        self.assertEqual(fee_stairs(2, ROW, EVEN), [(0, 0, 6)])

    def test_roads(self):
        self.assertEqual(
            [road_price(3, [[], [0]], [[], [2]], [[0, 1, 5], [1, 0, 1], [5, 1, 0]]),
             road_price(2, ROW, THREE + [[1, 1, 1]], [[0, 1], [1, 0]])],
            [2, None],
        )


class TurnedTest(unittest.TestCase):
    def test_the_least_prices_are_those_of_the_class(self):
        rng = Random(48)
        for kinds, members in some_classes():
            for low, high in ((0, 1), (-3, 3), (-100, 100), (-10 ** 29, 10 ** 29), (5, 5)):
                prices = prices_by_chance(rng, kinds, len(members[0]), low, high)
                least = least_by_the_class(kinds, members, prices)
                for company in {repr(one): one for one in (members[0], members[-1])}.values():
                    self.assertEqual(least_by_turned(kinds, company, prices), least)
                steps = [behind - ahead for ahead, behind in zip(least, least[1:])]
                self.assertEqual(steps, sorted(steps))

    def test_a_loose_pair_is_never_turned(self):
        self.assertEqual(least_by_turned(9, [[], [5]], [[], [[7, 6, 5, 4, -3, 4, 5, 6, 7]]]), [-3])
        self.assertEqual(fee_stairs(9, [[], [5]], [[], [[7, 6, 5, 4, -3, 4, 5, 6, 7]]]), [(0, 0, -3)])
        twin = [[], [1], [0, 1], [0, 0, 1], [1, 2, 1, 0]]
        prices = [[[0, 0, 0] for _ in range(person)] for person in range(5)]
        prices[4][1] = [5, 4, 9]
        self.assertEqual([least_by_turned(3, twin, prices), fee_stairs(3, twin, prices)], [[4], [(0, 0, 4)]])

    def test_one_person_and_a_company_alone_in_its_class(self):
        self.assertEqual([least_by_turned(9, [[]], [[]]), fee_stairs(9, [[]], [[]])], [[0], [(0, 0, 0)]])
        self.assertEqual(least_by_turned(2, ROW, EVEN), [6])

    def test_all_numbers_of_turned_couples_are_told(self):
        for people in range(3, 13):
            same = [[0] * person for person in range(people)]
            prices = [[[1, 0]] * person for person in range(people)]
            whole = people * (people - 1) // 2
            self.assertEqual(least_by_turned(2, same, prices), [whole - many for many in range(people // 2 + 1)])
            dear = [[[0, 2]] * person for person in range(people)]
            self.assertEqual(least_by_turned(2, same, dear), [2 * many for many in range(people // 2 + 1)])


class FeesTest(unittest.TestCase):
    def test_stairs_are_what_all_fees_tell(self):
        rng = Random(49)
        for kinds, members in some_classes():
            for low, high in ((0, 1), (-2, 2), (-9, 9), (3, 3)):
                prices = prices_by_chance(rng, kinds, len(members[0]), low, high)
                least = least_by_the_class(kinds, members, prices)
                self.assertEqual(fee_stairs(kinds, members[-1], prices), stairs_by_fees(least))

    def test_the_least_number_is_told_where_several_are_as_cheap(self):
        four = [[0] * person for person in range(4)]
        prices = [[], [[5, 0]], [[0, 9], [0, 9]], [[0, 9], [0, 9], [5, 0]]]
        self.assertEqual(least_by_turned(2, four, prices), [10, 5, 0])
        self.assertEqual(fee_stairs(2, four, prices), [(0, 2, 0), (5, 0, 10)])
        prices[3][2] = [5, 5]
        self.assertEqual([least_by_turned(2, four, prices), fee_stairs(2, four, prices)],
                         [[10, 5, 5], [(0, 1, 5), (5, 0, 10)]])
        prices[3][2] = [5, 1]
        self.assertEqual(fee_stairs(2, four, prices), [(0, 2, 1), (4, 1, 5), (5, 0, 10)])
        self.assertEqual(fee_stairs(2, four, EVEN), [(0, 0, 6)])

    def test_fees_are_told_for_prices_of_thirty_figures(self):
        high = helper.THIRTY_FIGURES
        self.assertEqual(
            fee_stairs(2, [[], [0], [0, 0]], [[], [[high, -high]], [[0, 0], [0, 0]]]),
            [(0, 1, -high), (2 * high, 0, high)],
        )


class RoadPricesTest(unittest.TestCase):
    def tolls_by_chance(self, rng, kinds):
        most = rng.choice((1, 5, 100))
        return [[rng.randint(0, most) ** rng.randint(1, 3) for _ in range(kinds)] for _ in range(kinds)]

    def test_the_price_is_that_of_the_cheapest_road(self):
        rng = Random(50)
        for web in helper.webs():
            if len(web.members) > 130:
                continue
            for _ in range(3):
                tolls = self.tolls_by_chance(rng, web.kinds)
                for start in rng.sample(range(len(web.members)), min(4, len(web.members))):
                    price = cheapest_roads(web, start, tolls)
                    for end, other in enumerate(web.members):
                        told = road_price(web.kinds, web.members[start], other, tolls)
                        self.assertEqual(told, price[end])

    def test_a_way_over_further_kinds(self):
        tolls = [[0, 1, 9, 9], [9, 0, 1, 9], [9, 9, 0, 1], [1, 9, 9, 0]]
        self.assertEqual([road_price(4, [[], [0]], [[], [kind]], tolls) for kind in range(4)], [0, 1, 2, 3])
        self.assertEqual(road_price(4, [[], [3]], [[], [2]], tolls), 3)
        # What stands at the places i of the lists i does not matter.
        for row, _ in enumerate(tolls):
            tolls[row][row] = 10 ** 29
        self.assertEqual([road_price(4, [[], [0]], [[], [kind]], tolls) for kind in range(4)], [0, 1, 2, 3])

    def test_companies_that_are_not_joined(self):
        for other in ([[], [1], [1, 1], [0, 0, 1]], [[0] * person for person in range(4)]):
            self.assertIsNone(road_price(2, ROW, other, [[0, 0], [0, 0]]))
        self.assertEqual(road_price(2, ROW, ROW, [[5, 5], [5, 5]]), 0)

    def test_errors(self):
        one, other = [[], [0], [0, 0]], [[], [1], [0, 0]]
        for wrong in WRONG_TOLLS:
            helper.refusal(self, InvalidPrices, wrong, road_price, 2, one, other, wrong)
            # Companies that are not joined do not matter for what is refused.
            helper.refusal(self, InvalidPrices, wrong, road_price, 2, one, [[], [1], [1, 0]], wrong)
            helper.refusal(self, Unlike, ROW, road_price, 2, one, ROW, wrong)
            helper.refusal(self, InvalidCompany, None, road_price, 2, one, None, wrong)
            helper.refusal(self, InvalidCompany, (), road_price, 2, (), None, wrong)
            helper.refusal(self, InvalidNumber, 10, road_price, 10, None, None, wrong)
        good = [[0, 1], [1, 0]]
        helper.refusal(self, InvalidPrices, good, road_price, 3, one, other, good)
        for wrong in ([[]], PRICES[:2], None, [[], [[5, 1]], [[2, 4], [7, True]]]):
            for function in (least_by_turned, fee_stairs):
                helper.refusal(self, InvalidPrices, wrong, function, 2, THREE, wrong)
                helper.refusal(self, InvalidCompany, None, function, 2, None, wrong)
                helper.refusal(self, InvalidNumber, True, function, True, None, wrong)


def least_of_group(people, base, prices, kinds, many):
    """The least price of a group with just so many turned couples, by who is turned with the first one."""
    known = {}

    def least(left, count):
        if count == 0:
            return sum(prices[high][low][base] for high in left for low in left if low < high)
        if len(left) < 2 * count:
            return None
        if (left, count) not in known:
            first, rest = left[0], left[1:]
            skipped = least(rest, count)
            plain = sum(prices[other][first][base] for other in rest)
            found = [] if skipped is None else [skipped + plain]
            for other in rest:
                behind = least(tuple(one for one in rest if one != other), count - 1)
                if behind is not None:
                    told = prices[other][first]
                    turned = min(price for kind, price in enumerate(told) if kind != base)
                    apart = sum(prices[max(one, other)][min(one, other)][base] for one in rest if one != other)
                    found.append(behind + plain - told[base] + turned + apart)
            known[(left, count)] = min(found)
        return known[(left, count)]

    return least(tuple(people), many)


class LimitsTest(unittest.TestCase):
    def test_groups_of_twelve(self):
        rng = Random(51)
        for kinds, people in ((2, 12), (3, 9), (9, 12)):
            for low, high in ((0, 3), (-1000, 1000)):
                company = member_by_chance(rng, kinds, [[1] * person for person in range(people)])
                prices = prices_by_chance(rng, kinds, people, low, high)
                told = [
                    least_of_group(range(people), 1, prices, kinds, many) for many in range(people // 2 + 1)
                ]
                self.assertEqual(least_by_turned(kinds, company, prices), told)
                self.assertEqual(fee_stairs(kinds, company, prices), stairs_by_fees(told))

    def test_forty_people(self):
        rng = Random(52)
        for kinds, sizes in ((2, [12, 12, 12, 4]), (9, [12, 12, 12, 4]), (3, [2, 11, 12, 3, 12])):
            company = member_by_chance(rng, kinds, helper.layered(sizes))
            prices = prices_by_chance(rng, kinds, 40, -1000, 1000)
            least = least_by_turned(kinds, company, prices)
            groups = [people for people, base in groups_of(kinds, company) if base is not None]
            self.assertEqual(len(least), 1 + sum(len(people) // 2 for people in groups))
            self.assertEqual(min(least), cheapest(kinds, company, prices)[0])
            self.assertEqual(least[0], cost(base_of(kinds, company), prices))
            steps = [behind - ahead for ahead, behind in zip(least, least[1:])]
            self.assertEqual(steps, sorted(steps))
            self.assertEqual(fee_stairs(kinds, company, prices), stairs_by_fees(least))

    def test_roads_of_forty_people(self):
        rng = Random(53)
        for kinds in (2, 9):
            start = helper.layered([12, 12, 12, 4])
            one, other = member_by_chance(rng, kinds, start), member_by_chance(rng, kinds, start)
            self.assertTrue(are_joined(kinds, one, other))
            tolls = [[abs(here - there) ** 2 for there in range(kinds)] for here in range(kinds)]
            told = sum(
                abs(one[high][low] - other[high][low]) for high in range(40) for low in range(high)
            )
            self.assertEqual(road_price(kinds, one, other, tolls), told)


if __name__ == "__main__":
    unittest.main()
