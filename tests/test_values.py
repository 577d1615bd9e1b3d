"""Point 2: what an integer is, and what ascending means."""

from itertools import combinations, product

from helper import Case, LONG, odd_values, spoiled
from tasterow.values import ascending_tuples, is_ascending, is_name, is_order, is_whole, is_within


class Integers(Case):

    def test_integers(self):
        for value in (0, 1, -1, LONG, -LONG):
            self.same(self.call(is_whole, value), True)

    def test_truth_values_are_no_integers(self):
        for value in (True, False):
            self.same(self.call(is_whole, value), False)
            self.same(self.call(is_within, value, 0, 1), False)

    def test_other_values(self):
        for value in odd_values():
            with self.subTest(value=value):
                self.same(self.call(is_whole, value), type(value) is int)

    def test_ends_belong_to_the_range(self):
        found = [value for value in range(-9, 9) if is_within(value, -2, 3)]
        self.assertEqual(found, [-2, -1, 0, 1, 2, 3])

    def test_values_without_order_are_not_within(self):
        for value in odd_values():
            with self.subTest(value=value):
                expected = type(value) is int and value in (0, 1, 5)
                self.same(self.call(is_within, value, 0, 5), expected)


class Tuples(Case):

    def test_orders(self):
        for size, length in product(range(4), range(5)):
            for value in product(range(-1, 4), repeat=length):
                self.same(is_order(size, value), sorted(value) == list(range(size)))

    def test_ascending_tuples_of_numbers(self):
        for length in range(4):
            for value in product(range(-1, 5), repeat=length):
                self.same(is_ascending(value, 0, 3), value in combinations(range(4), length))
                self.same(is_ascending(value, 1, 2), value in combinations(range(1, 3), length))

    def test_other_values(self):
        for value in [*spoiled((0, 1, 2)), [0, 1, 2], (0, 1, True), (False, 1, 2)]:
            with self.subTest(value=value):
                self.same(self.call(is_order, 3, value), False)
                self.same(self.call(is_ascending, value, 0, 3), value == () and isinstance(value, tuple))

    def test_all_ascending_tuples(self):
        for size, length in product(range(9), range(9)):
            self.same(ascending_tuples(size, length), list(combinations(range(size), length)))


class Names(Case):

    def test_lengths(self):
        for length in range(12):
            self.same(self.call(is_name, "z" * length), 1 <= length <= 8)

    def test_letters(self):
        for code in [10, *range(32, 127)]:
            for text in (chr(code), "a" + chr(code), chr(code) + "a"):
                self.same(self.call(is_name, text), "a" <= chr(code) <= "z")

    def test_other_values(self):
        for value in [*odd_values(), b"a", ["a"], ("a",), {"a": 1}]:
            with self.subTest(value=value):
                self.same(self.call(is_name, value), False)
