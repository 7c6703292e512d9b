"""The whole program: that all modules say the same of one class."""

import unittest
from itertools import product
from random import Random

from tests import helper
from tests.test_letdown import small_classes
from tests.test_prices import cost, prices_by_chance
from tests.test_programs import program_by_chance
from twinties.blocks import run_often
from twinties.book import CompanyBook
from twinties.classes import how_many_alone, how_many_classes, is_member, member_at, member_number, members, next_member
from twinties.companies import deeds, differing, done
from twinties.comers import middle
from twinties.fours import joined_among, lone_couple, parting_lot
from twinties.groups import groups_of, marked, marks_of, movers
from twinties.letdown import are_joined, base_of, knots_left, parting_couple
from twinties.lines import line_of, of_line
from twinties.prices import cheapest, how_many_cheapest, is_cheapest
from twinties.programs import programs_alike, run
from twinties.roads import distance, farthest, greatest_distance, how_many_roads, is_between, road
from twinties.sizes import class_size, sizes_by_deeds
from twinties.stairs import fee_stairs, least_by_turned, road_price
from twinties.tallies import tallies, tie_bounds
from twinties.ties import free_couples, is_free
from twinties.wishes import can_meet, first_meeting, how_many_meet, is_meeting, nearest, sure_under
from twinties.words import firm_fours, same_words, words_of


def some_classes(most=120):
    yield from small_classes()
    for web in helper.webs():
        if len(web.members) <= most:
            yield web.kinds, web.members


def all_as_they_are(company):
    return [(low, high, company[high][low]) for low, high in helper.couples_of(len(company))]


def free_prices(kinds, people):
    return [[[0] * kinds for _ in range(person)] for person in range(people)]


class PairsTest(unittest.TestCase):
    def check_pair(self, kinds, one, other, told):
        people = len(one)
        self.assertIs(are_joined(kinds, one, other), told)
        self.assertIs(same_words(kinds, one, other), told)
        self.assertIs(words_of(kinds, one) == words_of(kinds, other)
                      and firm_fours(kinds, one) == firm_fours(kinds, other), told)
        self.assertIs(base_of(kinds, one) == base_of(kinds, other), told)
        self.assertIs(parting_couple(kinds, one, other) is None, told)
        self.assertIs(parting_lot(kinds, one, other) is None, told)
        self.assertIs(is_member(kinds, one, other), told)
        self.assertIs(distance(kinds, one, other) is not None, told)
        self.assertIs(how_many_roads(kinds, one, other) > 0, told)
        self.assertIs(can_meet(kinds, one, all_as_they_are(other)), told)
        self.assertEqual(how_many_meet(kinds, one, all_as_they_are(other)), int(told))
        self.assertIs(is_meeting(kinds, one, [], other), told)
        self.assertIs(is_cheapest(kinds, one, free_prices(kinds, people), other), told)
        self.assertIs(road_price(kinds, one, other, [[0] * kinds for _ in range(kinds)]) == 0, told)
        self.assertIs(CompanyBook(kinds, one).joined(CompanyBook(kinds, other)), told)
        fours = helper.lots_of(people, min(4, people))
        self.assertIs(all(joined_among(kinds, one, other, lot) for lot in fours), told)
        if told:
            self.assertEqual(groups_of(kinds, one), groups_of(kinds, other))
            self.assertEqual(knots_left(kinds, one), knots_left(kinds, other))
            self.assertIsNone(lone_couple(kinds, one, other))

    def test_whether_two_companies_are_joined(self):
        for kinds, people in ((2, 3), (2, 4), (3, 3), (9, 2)):
            classes = [found for told, found in small_classes() if told == kinds and len(found[0]) == people]
            number_of = {repr(company): number for number, found in enumerate(classes) for company in found}
            companies = list(helper.companies_of(kinds, people))
            pairs = list(product(companies, companies))
            for one, other in pairs if len(pairs) < 1000 else Random(people).sample(pairs, 700):
                self.check_pair(kinds, one, other, number_of[repr(one)] == number_of[repr(other)])

    def test_companies_of_one_class(self):
        rng = Random(1)
        for kinds, found in some_classes():
            one, other = rng.choice(found), rng.choice(found)
            self.check_pair(kinds, one, other, True)
            low, high = rng.choice(helper.couples_of(len(one)) or [(0, 0)])
            if high:
                changed = [list(row) for row in other]
                changed[high][low] = (changed[high][low] + 1) % kinds
                self.check_pair(kinds, one, changed, changed in found)

    def test_distances(self):
        rng = Random(2)
        for kinds, found in some_classes():
            for _ in range(6):
                one, other = rng.choice(found), rng.choice(found)
                far = distance(kinds, one, other)
                self.assertEqual(far, len(differing(kinds, one, other)))
                self.assertEqual(len(road(kinds, one, other)), far)
                self.assertEqual(nearest(kinds, one, all_as_they_are(other)), (far, other))
                self.assertEqual(road_price(kinds, one, other, [[1] * kinds for _ in range(kinds)]), far)
                self.assertEqual(CompanyBook(kinds, one).far(CompanyBook(kinds, other)), far)
                self.assertLessEqual(far, farthest(kinds, one))
                third = rng.choice(found)
                between = middle(kinds, one, other, third)
                if between is not None:
                    self.assertIs(is_between(kinds, one, third, between), True)


class ClassTest(unittest.TestCase):
    def test_the_members_and_how_many(self):
        for kinds, found in some_classes():
            company, size = found[-1], len(found)
            people = len(company)
            self.assertEqual(members(kinds, company), found)
            self.assertEqual([class_size(kinds, company), sum(sizes_by_deeds(kinds, company))], [size, size])
            self.assertEqual([how_many_meet(kinds, company, []), first_meeting(kinds, company, [])], [size, found[0]])
            self.assertEqual(how_many_cheapest(kinds, company, free_prices(kinds, people)), size)
            for kind in range(kinds):
                told = tallies(kinds, company, kind)
                least, most = tie_bounds(kinds, company, kind)
                self.assertEqual([sum(told), len(told)], [size, most - least + 1])
            self.assertEqual([member_at(kinds, company, number) for number in range(size)], found)
            self.assertEqual([member_number(kinds, one) for one in found], list(range(size)))
            self.assertEqual([next_member(kinds, one) for one in found], found[1:] + [None])
            self.assertEqual([marked(kinds, company, marks_of(kinds, one)) for one in found], found)
            self.assertIs(size == 1, deeds(kinds, company) == [] and movers(kinds, company) == [])

    def test_the_numbers_of_classes(self):
        for kinds, people in ((2, 1), (2, 2), (2, 3), (2, 4), (3, 3), (9, 2)):
            sizes = [len(found) for told, found in small_classes() if told == kinds and len(found[0]) == people]
            self.assertEqual([how_many_classes(kinds, people), how_many_alone(kinds, people)],
                             [len(sizes), sizes.count(1)])

    def test_how_far_they_are(self):
        for kinds, found in some_classes(60):
            far = [[distance(kinds, one, other) for other in found] for one in found]
            for one, row in zip(found, far):
                self.assertEqual([farthest(kinds, one), len(sizes_by_deeds(kinds, one)) - 1], [max(row), max(row)])
                self.assertEqual(sizes_by_deeds(kinds, one), [row.count(deeds) for deeds in range(max(row) + 1)])
            self.assertEqual(greatest_distance(kinds, found[0]), max(max(row) for row in far))

    def test_sure_ties(self):
        for kinds, found in some_classes():
            company = found[0]
            free = free_couples(kinds, company)
            sure = [wish for wish in all_as_they_are(company) if wish[:2] not in free]
            self.assertEqual(sure_under(kinds, company, []), sure)
            for couple in helper.couples_of(len(company)):
                self.assertIs(is_free(kinds, company, couple), couple in free)
                self.assertIs(all(can_meet(kinds, company, [couple + (kind,)]) for kind in range(kinds)), couple in free)

    def test_prices(self):
        rng = Random(3)
        for kinds, found in some_classes():
            prices = prices_by_chance(rng, kinds, len(found[0]), -9, 9)
            price, member = cheapest(kinds, found[0], prices)
            self.assertEqual(price, min(cost(company, prices) for company in found))
            least = least_by_turned(kinds, found[0], prices)
            self.assertEqual([min(least), fee_stairs(kinds, found[0], prices)[0][2]], [price, price])
            met = first_meeting(kinds, found[0], all_as_they_are(member))
            self.assertEqual(met, member)
            self.assertIs(is_cheapest(kinds, found[-1], prices, member), True)


class StepsTest(unittest.TestCase):
    def test_programs_and_books_stay_in_the_class(self):
        rng = Random(4)
        for kinds, found in some_classes():
            company = rng.choice(found)
            people = len(company)
            program = program_by_chance(rng, range(people), 6) if people > 1 else []
            behind = run(kinds, company, program)
            self.assertIn(behind, found)
            self.assertEqual([run_often(kinds, company, program, 1), run(kinds, behind, program)],
                             [behind, run_often(kinds, company, program, 2)])
            self.assertIs(programs_alike(kinds, program, []) and behind != company, False)
            book = CompanyBook(kinds, company)
            other = rng.choice(found)
            for deed in road(kinds, company, other):
                book.do(("tie", deed))
                self.assertIn(book.company(), found)
            self.assertEqual([book.company(), len(book.log())], [other, distance(kinds, company, other)])
            self.assertEqual(book.groups(), groups_of(kinds, company))
            if deeds(kinds, company):
                deed = rng.choice(deeds(kinds, company))
                book = CompanyBook(kinds, company)
                book.do(("tie", deed))
                self.assertEqual(book.company(), done(kinds, company, deed))

    def test_lines_tell_all_members_apart(self):
        for kinds, found in some_classes():
            lines = [line_of(kinds, company) for company in found]
            self.assertEqual(lines, sorted(set(lines)))
            self.assertEqual([of_line(line) for line in lines], [(kinds, company) for company in found])


if __name__ == "__main__":
    unittest.main()
