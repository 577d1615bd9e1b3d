"""Points 36 to 40, and 3 (d): majorities and medians."""

from itertools import combinations, permutations, product

from helper import FOUR, LONG, T, U, Case, large_tables, odd_values, seatings, small_tables, weigh
from tasterow.errors import NoDish
from tasterow.majorities import majority, medians, support, ties

HEAVY = (3, (
    ((0, 1, 2), 10 ** 12), ((1, 0, 2), 10 ** 12 - 1), ((1, 2, 0), 1), ((0, 1, 2), 3), ((2, 1, 0), 10 ** 12),
))
BALANCED = (3, (((0, 1, 2), 10 ** 12), ((2, 1, 0), 10 ** 12 - 2), ((1, 2, 0), 2)))


def evened(table):
    """The table with weight 1 for each taster, so that half of the weight is often reached exactly."""
    return (table[0], tuple((ranking, 1) for ranking, weight in table[1]))


def tables():
    found = [*small_tables(), HEAVY, BALANCED, *[table for table, rankings in large_tables()]]
    return found + [evened(table) for table in found]


def weight_for(table, one, other):
    return sum(weight for ranking, weight in table[1] if ranking.index(one) < ranking.index(other))


def medians_by_people(table, seating):
    """The rankings of the middle person, or of the two, if all people sit along the seating."""
    people = [table[1][taster][0] for taster in seating for person in range(table[1][taster][1])]
    return tuple(sorted({people[(len(people) - 1) // 2], people[len(people) // 2]}))


def seating_by_chain(table, rankings):
    return sorted(range(len(table[1])), key=lambda taster: rankings.index(table[1][taster][0]))


class Support(Case):

    def test_against_the_definition(self):
        for table in tables():
            for one, other in permutations(range(table[0]), 2):
                self.same(self.call(support, table, one, other), weight_for(table, one, other))

    def test_great_weights(self):
        self.same(support(HEAVY, 0, 2), 2 * 10 ** 12 + 2)
        self.same(support(HEAVY, 2, 0), 10 ** 12 + 1)
        self.same(support(BALANCED, 0, 1), 10 ** 12)

    def test_the_first_dish_is_none(self):
        for table in (T, U, FOUR, weigh(1, [(0,)])):
            dishes = table[0]
            wrong = [value for value in odd_values() if type(value) is not int or not 0 <= value < dishes]
            for one in [*wrong, dishes, dishes + 1, -dishes]:
                for other in (0, 1, one, LONG, None, True):
                    self.fails(NoDish, {"dish": one}, support, table, one, other)

    def test_the_other_dish_is_none(self):
        for table in (T, U, FOUR, weigh(1, [(0,)])):
            dishes = table[0]
            wrong = [value for value in odd_values() if type(value) is not int or not 0 <= value < dishes]
            for one, other in product(range(dishes), [*wrong, dishes, dishes + 1, -dishes]):
                self.fails(NoDish, {"dish": other}, support, table, one, other)

    def test_twice_the_same_dish(self):
        for table in tables()[::9]:
            for dish in range(table[0]):
                self.fails(NoDish, {"dish": dish}, support, table, dish, dish)

    def test_truth_values(self):
        for one, other, wrong in (
            (True, 0, True), (False, 1, False), (True, True, True), (False, False, False), (0, True, True),
            (1, True, True), (0, False, False), (2, False, False), (True, False, True), (3, True, 3),
        ):
            self.fails(NoDish, {"dish": wrong}, support, T, one, other)


class Majority(Case):

    def test_against_the_definition(self):
        for table in tables():
            expected = [
                (one, other) for one, other in permutations(range(table[0]), 2)
                if weight_for(table, one, other) > weight_for(table, other, one)
            ]
            self.same(self.call(majority, table), tuple(sorted(expected)))

    def test_ties_against_the_definition(self):
        for table in tables():
            expected = [
                (low, high) for low, high in combinations(range(table[0]), 2)
                if weight_for(table, low, high) == weight_for(table, high, low)
            ]
            self.same(self.call(ties, table), tuple(expected))

    def test_equal_weights_on_both_sides(self):
        for weight in (1, 2, 7, 10 ** 12):
            table = (2, (((0, 1), weight), ((1, 0), weight)))
            self.same(self.call(majority, table), ())
            self.same(self.call(ties, table), ((0, 1),))

    def test_one_person_more(self):
        for weight in (1, 2, 10 ** 12 - 1):
            table = (2, (((0, 1), weight), ((1, 0), weight + 1)))
            self.same(self.call(majority, table), ((1, 0),))
            self.same(self.call(ties, table), ())
            table = (2, (((0, 1), weight + 1), ((1, 0), weight)))
            self.same(self.call(majority, table), ((0, 1),))
            self.same(self.call(ties, table), ())

    def test_one_dish(self):
        self.same(self.call(majority, (1, (((0,), 1),))), ())
        self.same(self.call(ties, (1, (((0,), 2),))), ())

    def test_tables_without_a_seating_have_majorities(self):
        circle = (3, (((0, 1, 2), 1), ((1, 2, 0), 1), ((2, 0, 1), 1)))
        self.same(self.call(majority, circle), ((0, 1), (1, 2), (2, 0)))
        self.same(self.call(ties, circle), ())


class Medians(Case):

    def test_small_tables(self):
        sizes = set()
        for table in small_tables():
            for weighed in (table, evened(table)):
                if seatings(table):
                    expected = medians_by_people(weighed, seatings(table)[0])
                    sizes.add(len(expected))
                    self.same(self.call(medians, weighed), expected)
                else:
                    self.not_seatable(table, medians, weighed)
        self.assertEqual(sizes, {1, 2})

    def test_large_tables(self):
        for table, rankings in large_tables():
            seating = seating_by_chain(table, rankings)
            for weighed in (table, evened(table)):
                self.same(self.call(medians, weighed), medians_by_people(weighed, seating))

    def test_every_small_weight(self):
        rows = ((0, 1, 2), (1, 0, 2), (1, 2, 0))
        for weights in product(range(1, 6), repeat=3):
            table = (3, tuple(zip(rows, weights)))
            expected = medians_by_people(table, (0, 1, 2))
            for tasters in permutations(table[1]):
                self.same(self.call(medians, (3, tasters)), expected)

    def test_half_at_the_end_of_a_group_of_several(self):
        a, b, c = (0, 1, 2), (1, 0, 2), (1, 2, 0)
        table = (3, ((c, 2), (a, 1), (b, 1), (a, 1), (a, 2), (c, 1)))
        self.same(self.call(medians, table), (a, b))
        table = (3, ((a, 1), (b, 2), (c, 4), (a, 1)))
        self.same(self.call(medians, table), (b, c))

    def test_half_within_a_group_of_several(self):
        a, b = (0, 1), (1, 0)
        self.same(self.call(medians, (2, ((a, 2), (a, 2)))), (a,))
        self.same(self.call(medians, (2, ((b, 2), (a, 1), (b, 1)))), (b,))
        self.same(self.call(medians, (2, ((b, 1), (a, 1), (b, 1), (a, 1)))), (a, b))

    def test_great_weights(self):
        self.same(self.call(medians, HEAVY), ((1, 0, 2),))
        self.same(self.call(medians, BALANCED), ((0, 1, 2), (1, 2, 0)))

    def test_ascending_whatever_the_order_of_the_groups(self):
        self.same(self.call(medians, (2, (((1, 0), 1), ((0, 1), 1)))), ((0, 1), (1, 0)))

    def test_a_dish_wins_if_all_medians_prefer_it(self):
        for table in tables():
            # All tables of more than six tasters here have a seating.
            if len(table[1]) > 6 or seatings(table):
                found = medians(table)
                for one, other in permutations(range(table[0]), 2):
                    beats = all(ranking.index(one) < ranking.index(other) for ranking in found)
                    self.assertEqual((one, other) in majority(table), beats)
                for low, high in combinations(range(table[0]), 2):
                    differ = len({ranking.index(low) < ranking.index(high) for ranking in found}) == 2
                    self.assertEqual((low, high) in ties(table), differ)
