"""What companies cost, and the cheapest of a class ([45] to [47])."""

from twinties.checks import check_company, is_company_of, is_whole
from twinties.errors import InvalidPrices
from twinties.letdown import groups_let_down, is_of_class, put_back


def are_kind_prices(kinds, value):
    """Whether a value is a list of a whole number for each kind."""
    return isinstance(value, list) and len(value) == kinds and all([is_whole(price) for price in value])


def are_prices(kinds, many, value):
    """Whether a value is prices for so many people and kinds."""
    if not isinstance(value, list) or len(value) != many:
        return False
    if not all([isinstance(row, list) and len(row) == person for person, row in enumerate(value)]):
        return False
    return all([are_kind_prices(kinds, told) for row in value for told in row])


def check_prices(kinds, company, prices):
    """Refuse kinds, then a company, then prices for it."""
    check_company(kinds, company)
    if not are_prices(kinds, len(company), prices):
        raise InvalidPrices(prices)


def total(company, prices):
    """The sum of the prices of all ties of a company."""
    return sum([told[kind] for row, costs in zip(company, prices) for kind, told in zip(row, costs)])


def cheapest_kinds(told, base):
    """The kinds, all but the base, that cost least of these."""
    least = min([price for kind, price in enumerate(told) if kind != base])
    return [kind for kind, price in enumerate(told) if kind != base and price == least]


def offer(best, taken, gain, ways, marks):
    """Keep a way to settle some people if no kept one, with the same people taken, gains more; count equal ones."""
    kept = best.get(taken)
    if kept is None or gain > kept[0]:
        best[taken] = (gain, ways, marks)
    elif gain == kept[0]:
        best[taken] = (gain, kept[1] + ways, kept[2])


def group_turns(group, prices):
    """For each place in a group the tuples `(further, gain, kinds, mark)` of its couples with those behind.

    `further` is how many places further on the other one of the couple stands, `gain` what turning it saves, `kinds`
    the number of its cheapest other kinds, `mark` one of these.
    """
    people, base = group
    turns = []
    for place, low in enumerate(people):
        found = []
        for other in range(place + 1, len(people)):
            told = prices[people[other]][low]
            kinds = cheapest_kinds(told, base)
            mark = (low, people[other], kinds[0])
            found.append((other - place, told[base] - told[kinds[0]], len(kinds), mark))
        turns.append(found)
    return turns


def next_settled(ahead, turns):
    """The best ways to settle one person more, by who of those behind is taken; `turns` are those of this person."""
    best = {}
    for taken, (gain, ways, marks) in ahead.items():
        offer(best, taken >> 1, gain, ways, marks)
        if taken & 1 == 0:
            for further, more, kinds, mark in turns:
                if taken >> further & 1 == 0:
                    offer(best, (taken | (1 << further)) >> 1, gain + more, ways * kinds, marks + (mark,))
    return best


def best_of_group(group, prices):
    """In how many ways a group has its least price, and the marks of one of them.

    The people are settled one by one; of those behind it matters only who is taken by one ahead. They are told by the
    bits of a number, the next one by the lowest bit.
    """
    best = {0: (0, 1, ())}
    for turns in group_turns(group, prices):
        best = next_settled(best, [turn for turn in turns if turn[1] >= 0])
    _, ways, marks = best[0]
    return ways, marks


def best_of_pair(group, prices):
    """In how many ways a loose pair has its least price, and the mark of one of them."""
    low, high = group[0]
    kinds = cheapest_kinds(prices[high][low], None)
    return len(kinds), ((low, high, kinds[0]),)


def cheapest_ways(company, groups, prices):
    """How many companies of a class have the least price, and one of them."""
    many = 1
    member = put_back(company, groups)
    for group in groups:
        ways, marks = best_of_pair(group, prices) if group[1] is None else best_of_group(group, prices)
        many *= ways
        for low, high, kind in marks:
            member[high][low] = kind
    return many, member


def price_of(kinds, company, prices):
    """The sum of the prices of all ties of a company."""
    check_prices(kinds, company, prices)
    return total(company, prices)


def cheapest(kinds, company, prices):
    """The tuple of the least price of all companies that are joined with one, and of one that has it."""
    check_prices(kinds, company, prices)
    _, member = cheapest_ways(company, groups_let_down(company), prices)
    return total(member, prices), member


def is_cheapest(kinds, company, prices, value):
    """Whether a value is a company that is joined with a company and has the least price."""
    check_prices(kinds, company, prices)
    if not is_company_of(kinds, value) or len(value) != len(company):
        return False
    groups = groups_let_down(company)
    if not is_of_class(company, groups, value):
        return False
    _, member = cheapest_ways(company, groups, prices)
    return total(value, prices) == total(member, prices)


def how_many_cheapest(kinds, company, prices):
    """How many companies of the class have the least price."""
    check_prices(kinds, company, prices)
    many, _ = cheapest_ways(company, groups_let_down(company), prices)
    return many
