"""Points 67 to 72, and 3 (h): lines."""

import random
import time
from itertools import combinations, product

from helper import (
    LONG, STEEP, TOP, Case, line_ranked, long_lines, odd_values, resized, short_lines, spoiled, wrong_spans,
)
from tasterow.errors import NoSpan, NoTaster
from tasterow.lines import (
    is_line, line_changes, line_distance, line_ranking, line_segments,
)

L = ((0, 1), (5, 0), (10, -1))


def differ(one, other):
    return [
        (low, high) for low, high in combinations(range(len(one)), 2)
        if (one.index(low) < one.index(high)) != (other.index(low) < other.index(high))
    ]


SPANS = [(0, 0), (0, 1), (0, 30), (2, 2), (3, 19), (4, 5), (7, 60)]


class IsLine(Case):

    def check(self, value, expected):
        with self.subTest(value=value):
            self.same(self.call(is_line, value), expected)

    def test_lines(self):
        for line in short_lines() + long_lines():
            self.check(line, True)

    def test_numbers_of_dishes(self):
        for dishes in range(12):
            self.check(((0, 0),) * dishes, 1 <= dishes <= 8)
            self.check([(0, 0)] * dishes, False)

    def test_limits(self):
        for height, slope in product((-LONG, -TOP - 1, -TOP, -1, 0, 1, TOP, TOP + 1, LONG), repeat=2):
            expected = -TOP <= height <= TOP and -TOP <= slope <= TOP
            self.check(((height, slope),), expected)
            self.check(((0, 1), (height, slope), (2, 3)), expected)

    def test_truth_values(self):
        for part in ((True, 0), (0, True), (False, 0), (0, False), (True, True)):
            self.check((part,), False)
            self.check(((0, 0), part), False)

    def test_other_forms(self):
        for part in ((), (0,), (0, 0, 0), [0, 0], "00", {0: 0}, None, 0, ((0, 0),), ("0", "0"), (None, None)):
            self.check((part,), False)
            self.check((*L, part), False)
        for line in (L, ((0, 0),)):
            for value in spoiled(line):
                self.check(value, False)
        for value in resized(L):
            pairs = all(isinstance(part, tuple) and len(part) == 2 for part in value)
            self.check(value, pairs)

    def test_any_value(self):
        for value in odd_values():
            self.check(value, repr(value) == "((0, 1), (1, 2))")
            self.check((value,), repr(value) in ("(-1, 0)", "(0, 0)"))
            self.check(((0, 0), (1, value)), type(value) is int and abs(value) <= TOP)


class LineRanking(Case):

    def test_short_lines(self):
        for line in short_lines():
            for t in range(70):
                self.same(self.call(line_ranking, line, t), line_ranked(line, t))

    def test_ends_and_far_tasters(self):
        source = random.Random(15)
        for line in long_lines() + short_lines():
            for t in (0, 1, 2, TOP - 1, TOP, *[source.randint(0, TOP) for attempt in range(9)]):
                self.same(self.call(line_ranking, line, t), line_ranked(line, t))

    def test_ties_go_to_the_lower_dish(self):
        self.same(self.call(line_ranking, ((0, 0), (0, 0), (0, 0)), 5), (0, 1, 2))
        self.same(self.call(line_ranking, ((0, 1), (5, 0)), 5), (0, 1))
        self.same(self.call(line_ranking, ((5, 0), (0, 1)), 5), (0, 1))
        self.same(self.call(line_ranking, ((5, 0), (0, 1)), 6), (1, 0))
        self.same(self.call(line_ranking, ((0, 1), (5, 0)), 4), (1, 0))
        self.same(self.call(line_ranking, ((0, 1), (TOP, 0)), TOP), (0, 1))
        self.same(self.call(line_ranking, ((0, 1), (TOP, 0)), TOP - 1), (1, 0))

    def test_no_taster(self):
        for line in (L, ((0, 0),), STEEP):
            for t in (-1, TOP + 1, LONG, -LONG, -TOP):
                self.fails(NoTaster, {"taster": t}, line_ranking, line, t)
            for t in [value for value in odd_values() if type(value) is not int]:
                with self.subTest(t=t):
                    self.fails(NoTaster, {"taster": t}, line_ranking, line, t)


class Spans(Case):

    def check(self, line, low, high):
        """Against line_ranking at every taster."""
        row = [line_ranked(line, t) for t in range(low, high + 1)]
        runs = []
        for t, ranking in enumerate(row, low):
            if runs and runs[-1][2] == ranking:
                runs[-1][1] = t
            else:
                runs.append([t, t, ranking])
        self.same(self.call(line_segments, line, low, high), tuple(tuple(run) for run in runs))
        self.same(self.call(line_distance, line, low, high), len(differ(row[0], row[-1])))
        changes = [(low + at, pair) for at in range(1, len(row)) for pair in differ(row[at - 1], row[at])]
        self.same(self.call(line_changes, line, low, high), tuple(sorted(changes)))

    def test_short_spans(self):
        for line in short_lines():
            for low, high in SPANS:
                self.check(line, low, high)

    def test_short_spans_at_the_end(self):
        for line in long_lines():
            for low, high in ((0, 20), (TOP - 20, TOP), (TOP, TOP), (TOP - 1, TOP), (TOP - 1, TOP - 1)):
                self.check(line, low, high)

    def test_short_spans_around_changes(self):
        for line in long_lines():
            for t, pair in line_changes(line, 0, TOP):
                self.check(line, max(0, t - 2), min(TOP, t + 2))

    def check_long(self, line, low, high):
        changes = self.call(line_changes, line, low, high)
        self.same(changes, tuple(sorted(set(changes))))
        pairs = [pair for t, pair in changes]
        self.assertEqual(len(set(pairs)), len(pairs))
        for t, pair in changes:
            self.assertTrue(low < t <= high)
            self.assertIn(pair, differ(line_ranked(line, t - 1), line_ranked(line, t)))
        # No pair changes twice, so those that differ at the ends are all that change.
        self.assertEqual(sorted(pairs), differ(line_ranked(line, low), line_ranked(line, high)))
        self.same(self.call(line_distance, line, low, high), len(pairs))
        starts = sorted({low, *[t for t, pair in changes]})
        ends = [t - 1 for t in starts[1:]] + [high]
        expected = [(first, last, line_ranked(line, first)) for first, last in zip(starts, ends)]
        self.same(self.call(line_segments, line, low, high), tuple(expected))
        for first, last, ranking in expected:
            self.assertEqual(line_ranked(line, last), ranking)

    def test_long_spans(self):
        source = random.Random(16)
        many = 0
        for line in long_lines() + short_lines():
            self.check_long(line, 0, TOP)
            many = max(many, line_distance(line, 0, TOP))
            for attempt in range(4):
                low, high = sorted([source.randint(0, TOP), source.randint(0, TOP)])
                self.check_long(line, low, high)
        self.assertGreater(many, 15)

    def test_short_time(self):
        start = time.perf_counter()
        for line in long_lines():
            line_segments(line, 0, TOP)
            line_changes(line, 0, TOP)
            line_distance(line, 0, TOP)
        self.assertLess(time.perf_counter() - start, 5)

    def test_one_taster(self):
        for line in long_lines() + short_lines():
            for t in (0, 5, TOP):
                self.same(self.call(line_segments, line, t, t), ((t, t, line_ranked(line, t)),))
                self.same(self.call(line_distance, line, t, t), 0)
                self.same(self.call(line_changes, line, t, t), ())

    def test_changes_at_the_ends_of_a_span(self):
        line = ((0, 1), (5, 0))
        self.same(self.call(line_changes, line, 4, 5), ((5, (0, 1)),))
        self.same(self.call(line_changes, line, 5, 6), ())
        self.same(self.call(line_changes, line, 3, 4), ())
        line = ((0, 1), (TOP, 0))
        self.same(self.call(line_changes, line, 0, TOP), ((TOP, (0, 1)),))
        self.same(self.call(line_changes, line, 0, TOP - 1), ())
        self.same(self.call(line_segments, line, 0, TOP), ((0, TOP - 1, (1, 0)), (TOP, TOP, (0, 1))))
        # The tie at 0 goes to the lower dish, the change comes behind it.
        self.same(self.call(line_changes, ((0, 0), (0, 1)), 0, TOP), ((1, (0, 1)),))
        self.same(self.call(line_changes, ((0, 1), (0, 0)), 0, TOP), ())

    def test_each_pair_changes_at_most_once(self):
        for line in short_lines():
            row = [line_ranked(line, t) for t in range(61)]
            for low, high in combinations(range(len(line)), 2):
                views = [ranking.index(low) < ranking.index(high) for ranking in row]
                self.assertLessEqual(sum(one != other for one, other in zip(views, views[1:])), 1)

    def test_no_span(self):
        for line in (L, ((0, 0),), STEEP):
            for low, high in wrong_spans():
                with self.subTest(low=low, high=high):
                    for function in (line_segments, line_distance, line_changes):
                        self.fails(NoSpan, {}, function, line, low, high)
