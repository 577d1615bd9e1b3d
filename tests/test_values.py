"""Point 2: what an integer is."""

from helper import Case, LONG, odd_values
from tasterow.values import is_whole, is_within


class Integers(Case):

    def test_integers(self):
        for value in (0, 1, -1, LONG, -LONG):
            self.same(self.call(is_whole, value), True)

    def test_truth_values_are_no_integers(self):
        for value in (True, False):
            self.same(self.call(is_whole, value), False)
            self.same(self.call(is_within, value, 0, 1), False)

    def test_other_values(self):
        for value in odd_values():
            with self.subTest(value=value):
                self.same(self.call(is_whole, value), type(value) is int)

    def test_ends_belong_to_the_range(self):
        found = [value for value in range(-9, 9) if is_within(value, -2, 3)]
        self.assertEqual(found, [-2, -1, 0, 1, 2, 3])

    def test_values_without_order_are_not_within(self):
        for value in odd_values():
            with self.subTest(value=value):
                expected = type(value) is int and value in (0, 1, 5)
                self.same(self.call(is_within, value, 0, 5), expected)
