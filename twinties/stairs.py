"""What fees for turned couples change, and what roads cost ([48] to [50])."""

from itertools import accumulate

from twinties.checks import check_companies, is_count
from twinties.errors import InvalidPrices
from twinties.letdown import groups_let_down, put_back
from twinties.prices import cheapest_kinds, check_prices, group_turns, total
from twinties.roads import couples_to_turn


def next_gains(ahead, turns):
    """The greatest gains with one person more settled; `turns` are those of this person.

    They are kept by the bits of those behind who are taken, as in `best_of_group`, and by how many couples are turned.
    """
    gains = {}
    for (taken, many), gain in ahead.items():
        place = (taken >> 1, many)
        if place not in gains or gains[place] < gain:
            gains[place] = gain
        if taken & 1 == 0:
            for further, more, _, _ in turns:
                if taken >> further & 1 == 0:
                    place = ((taken | (1 << further)) >> 1, many + 1)
                    if place not in gains or gains[place] < gain + more:
                        gains[place] = gain + more
    return gains


def group_steps(group, prices):
    """By how much the least price of a group grows with each couple more that is turned."""
    gains = {(0, 0): 0}
    for turns in group_turns(group, prices):
        gains = next_gains(gains, turns)
    return [gains[(0, many)] - gains[(0, many + 1)] for many in range(len(group[0]) // 2)]


def least_prices(company, prices):
    """The least prices of all companies of the class with 0, 1, 2 and so on turned couples.

    The steps of each group never become less ([48]): so those of all groups are taken in their order.
    """
    groups = groups_let_down(company)
    member = put_back(company, groups)
    steps = []
    for group in groups:
        if group[1] is None:
            low, high = group[0]
            member[high][low] = cheapest_kinds(prices[high][low], None)[0]
        else:
            steps.extend(group_steps(group, prices))
    return list(accumulate([total(member, prices)] + sorted(steps)))


def are_counts(many, value):
    """Whether a value is a list of so many counts."""
    return isinstance(value, list) and len(value) == many and all([is_count(price) for price in value])


def are_tolls(kinds, value):
    """Whether a value is a list of as many lists of counts as there are kinds, each of as many."""
    return isinstance(value, list) and len(value) == kinds and all([are_counts(kinds, row) for row in value])


def least_tolls(tolls):
    """The least price of all ways from each kind to each other one, over any kinds."""
    least = tolls
    for over in range(len(tolls)):
        onward = least[over]
        least = [[min(price, row[over] + more) for price, more in zip(row, onward)] for row in least]
    return least


def least_by_turned(kinds, company, prices):
    """The list of the least prices of all companies of the class with 0, 1, 2 and so on turned couples."""
    check_prices(kinds, company, prices)
    return least_prices(company, prices)


def fee_stairs(kinds, company, prices):
    """The list of the tuples `(fee, many, price)`: from which fee on how many couples are turned at the least price."""
    check_prices(kinds, company, prices)
    least = least_prices(company, prices)
    stairs = []
    fee = 0
    for many in range(len(least) - 1, 0, -1):
        gain = least[many - 1] - least[many]
        if gain > fee:
            stairs.append((fee, many, least[many]))
            fee = gain
    return stairs + [(fee, 0, least[0])]


def road_price(kinds, one, other, tolls):
    """The least price of all roads from one company to another, None if they are not joined."""
    check_companies(kinds, one, other)
    if not are_tolls(kinds, tolls):
        raise InvalidPrices(tolls)
    couples = couples_to_turn(one, other)
    if couples is None:
        return None
    least = least_tolls(tolls)
    return sum([least[one[high][low]][other[high][low]] for low, high in couples])
