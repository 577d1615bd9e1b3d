"""Points 73 to 78, and 3 (h): questions about spans of a line."""

import random
import time
from itertools import combinations, product

from helper import (
    LONG, TOP, Case, line_ranked, long_lines, odd_values, rankings, short_lines, sides, sits, spoiled, wrong_spans,
)
from tasterow.errors import NoDish, NoMenu, NoPlaces, NoRanking, NoSpan
from tasterow.lines import line_changes
from tasterow.spans import (
    line_choices, line_cost, line_insert_ranges, line_medians, line_support, line_table,
)

L = ((0, 1), (5, 0), (10, -1))
SPANS = [(0, 0), (0, 1), (0, 30), (2, 2), (3, 19), (4, 5), (7, 61)]


def menus(dishes):
    return [menu for size in range(1, dishes + 1) for menu in combinations(range(dishes), size)]


def chosen(ranking, menu):
    return next(dish for dish in ranking if dish in menu)


def short_cases():
    """Triples (line, low, high) with few tasters, at both ends of the numbers."""
    found = [(line, low, high) for line in short_lines() for low, high in SPANS]
    found += [(line, TOP - 9, TOP) for line in long_lines()] + [(line, TOP, TOP) for line in long_lines()[::4]]
    for line in long_lines():
        for t, pair in line_changes(line, 0, TOP)[::3]:
            found.append((line, max(0, t - 3), min(TOP, t + 2)))
    return found


def long_cases():
    source = random.Random(17)
    found = [(line, 0, TOP) for line in long_lines() + short_lines()]
    for line in long_lines():
        found.append((line, *sorted([source.randint(0, TOP), source.randint(0, TOP)])))
    return found


def runs(line, low, high):
    """All (ranking, first, last) of a long span, by the places where its pairs change."""
    starts = sorted({low, *[t for t, pair in line_changes(line, low, high)]})
    ends = [start - 1 for start in starts[1:]] + [high]
    return [(line_ranked(line, first), first, last) for first, last in zip(starts, ends)]


def inserted(line, low, high, ranking):
    """The maximal ranges by inserting before every taster, by the definition of a seating."""
    row = [line_ranked(line, t) for t in range(low, high + 1)]
    *marks, new = sides((len(line), tuple((one, 1) for one in [*row, ranking])))
    found = []
    for at in range(len(marks) + 1):
        if stays_seated([*marks[:at], new, *marks[at:]]):
            if found and found[-1][1] == low + at - 1:
                found[-1][1] = low + at
            else:
                found.append([low + at, low + at])
    return tuple(tuple(part) for part in found)


def stays_seated(marks):
    """Whether no pair changes twice; for short rows this is asked as the definition says it."""
    if len(marks) < 8:
        return sits(marks)
    changed = 0
    for one, other in zip(marks, marks[1:]):
        if (one ^ other) & changed:
            return False
        changed |= one ^ other
    return True


def wrong_menus(dishes):
    tuples = [value for size in range(4) for value in product(range(-1, dishes + 1), repeat=size)]
    found = [value for value in tuples if value not in menus(dishes)]
    found += [value for value in odd_values() if repr(value) != "(0,)"]
    return [*found[::5], *spoiled((0, 1)), [0], [0, 1], (False,), (0, True), (0, LONG), (dishes,), ()]


class Support(Case):

    def test_taster_by_taster(self):
        for line, low, high in short_cases():
            row = [line_ranked(line, t) for t in range(low, high + 1)]
            for one, other in product(range(len(line)), repeat=2):
                if one != other:
                    expected = sum(ranking.index(one) < ranking.index(other) for ranking in row)
                    self.same(line_support(line, low, high, one, other), expected)

    def test_long_spans(self):
        for line, low, high in long_cases():
            for one, other in combinations(range(len(line)), 2):
                parts = runs(line, low, high)
                expected = sum(b - a + 1 for row, a, b in parts if row.index(one) < row.index(other))
                self.same(self.call(line_support, line, low, high, one, other), expected)
                self.same(self.call(line_support, line, low, high, other, one), high - low + 1 - expected)

    def test_the_last_taster(self):
        line = ((0, 1), (TOP, 0))
        self.same(self.call(line_support, line, 0, TOP, 0, 1), 1)
        self.same(self.call(line_support, line, 0, TOP, 1, 0), TOP)
        self.same(self.call(line_support, ((0, 0), (0, 0)), 0, TOP, 0, 1), TOP + 1)

    def test_no_dish(self):
        wrong = [-1, 3, 4, LONG, -LONG] + [value for value in odd_values() if type(value) is not int]
        for dish in wrong:
            with self.subTest(dish=dish):
                self.fails(NoDish, {"dish": dish}, line_support, L, 0, 10, dish, 1)
                self.fails(NoDish, {"dish": dish}, line_support, L, 0, 10, 1, dish)
                self.fails(NoDish, {"dish": dish}, line_support, L, 0, 10, dish, [7])
        for dish in range(3):
            self.fails(NoDish, {"dish": dish}, line_support, L, 0, 10, dish, dish)
        for one, other in ((True, 0), (False, 1), (False, 0)):
            self.fails(NoDish, {"dish": one}, line_support, L, 0, 10, one, other)
            self.fails(NoDish, {"dish": one}, line_support, L, 0, 10, 2, one)
        self.fails(NoDish, {"dish": 0}, line_support, ((0, 0),), 0, 0, 0, 0)
        self.fails(NoDish, {"dish": 1}, line_support, ((0, 0),), 0, 0, 0, 1)

    def test_no_span_comes_first(self):
        for low, high in wrong_spans():
            for one, other in ((0, 1), (0, 0), (9, 1), (None, [])):
                self.fails(NoSpan, {}, line_support, L, low, high, one, other)


class Medians(Case):

    def expected(self, parts):
        total = sum(many for ranking, many in parts)
        passed = 0
        for at, (ranking, many) in enumerate(parts):
            passed += many
            if 2 * passed >= total:
                also = [parts[at + 1][0]] if 2 * passed == total else []
                return tuple(sorted([ranking, *also]))

    def test_short_spans(self):
        for line, low, high in short_cases():
            found = self.call(line_medians, line, low, high)
            parts = []
            for t in range(low, high + 1):
                ranking = line_ranked(line, t)
                if parts and parts[-1][0] == ranking:
                    parts[-1][1] += 1
                else:
                    parts.append([ranking, 1])
            self.same(found, self.expected(parts))

    def test_long_spans(self):
        for line, low, high in long_cases():
            parts = [(ranking, last - first + 1) for ranking, first, last in runs(line, low, high)]
            self.same(self.call(line_medians, line, low, high), self.expected(parts))

    def test_two_medians(self):
        line = ((0, 1), (6, 0))
        self.same(self.call(line_medians, line, 0, 11), ((0, 1), (1, 0)))
        self.same(self.call(line_medians, line, 0, 10), ((1, 0),))
        self.same(self.call(line_medians, line, 0, 12), ((0, 1),))
        half = ((0, 2), (TOP, 0))
        self.same(self.call(line_medians, half, 0, TOP - 1), ((0, 1), (1, 0)))
        self.same(self.call(line_medians, half, 0, TOP), ((0, 1),))

    def test_medians_and_supports(self):
        for line, low, high in long_cases():
            rows = line_medians(line, low, high)
            for one, other in combinations(range(len(line)), 2):
                lead = line_support(line, low, high, one, other) - line_support(line, low, high, other, one)
                views = {row.index(one) < row.index(other) for row in rows}
                self.assertEqual(views, {True} if lead > 0 else {False} if lead < 0 else {True, False})

    def test_no_span(self):
        for low, high in wrong_spans():
            self.fails(NoSpan, {}, line_medians, L, low, high)


class Menus(Case):

    def test_taster_by_taster(self):
        for line, low, high in short_cases():
            for menu in menus(len(line))[::7 if len(line) > 4 else 1]:
                row = [line_ranked(line, t) for t in range(low, high + 1)]
                places = {}
                for t, ranking in enumerate(row, low):
                    places.setdefault(chosen(ranking, menu), []).append(t)
                # Those who choose the same dish sit next to one another.
                for those in places.values():
                    self.assertEqual(those, list(range(those[0], those[-1] + 1)))
                expected = tuple((dish, those[0], those[-1]) for dish, those in places.items())
                self.same(line_choices(line, low, high, menu), expected)
                cost = sum(ranking.index(chosen(ranking, menu)) for ranking in row)
                self.same(line_cost(line, low, high, menu), cost)

    def test_long_spans(self):
        for line, low, high in long_cases():
            parts = runs(line, low, high)
            for menu in menus(len(line))[::9 if len(line) > 4 else 1]:
                places = {}
                for ranking, first, last in parts:
                    places.setdefault(chosen(ranking, menu), []).extend([first, last])
                expected = tuple((dish, ends[0], ends[-1]) for dish, ends in places.items())
                self.same(self.call(line_choices, line, low, high, menu), expected)
                cost = sum((last - first + 1) * row.index(chosen(row, menu)) for row, first, last in parts)
                self.same(self.call(line_cost, line, low, high, menu), cost)

    def test_all_and_one(self):
        for line in short_lines():
            dishes = len(line)
            self.same(self.call(line_cost, line, 0, TOP, tuple(range(dishes))), 0)
            for dish in range(dishes):
                self.same(self.call(line_choices, line, 3, TOP, (dish,)), ((dish, 3, TOP),))

    def test_no_menu(self):
        for line in (L, ((0, 0),)):
            for menu in wrong_menus(len(line)):
                with self.subTest(menu=menu):
                    self.fails(NoMenu, {}, line_choices, line, 0, 10, menu)
                    self.fails(NoMenu, {}, line_cost, line, 0, 10, menu)

    def test_no_span_comes_first(self):
        for low, high in wrong_spans():
            for menu in ((0,), (0, 1), (), (3,), None, [0]):
                self.fails(NoSpan, {}, line_choices, L, low, high, menu)
                self.fails(NoSpan, {}, line_cost, L, low, high, menu)


class InsertRanges(Case):

    def rows_for(self, source, line, low, high):
        """Rankings of the span, between, beyond and unrelated."""
        dishes = len(line)
        if dishes < 4:
            return rankings(dishes)
        ends = [line_ranked(line, low), line_ranked(line, high), line_ranked(line, (low + high) // 2)]
        return [*ends, ends[0][::-1], ends[1][::-1], tuple(source.sample(range(dishes), dishes))]

    def test_before_every_taster(self):
        source = random.Random(18)
        seen = set()
        for line, low, high in short_cases():
            for ranking in self.rows_for(source, line, low, high):
                expected = inserted(line, low, high, ranking)
                seen.add((len(expected), low == high))
                self.same(self.call(line_insert_ranges, line, low, high, ranking), expected)
        self.assertEqual(seen, {(0, False), (1, False), (2, False), (1, True)})

    def test_long_spans(self):
        source = random.Random(19)
        for line, low, high in long_cases():
            places = [first for row, first, last in runs(line, low, high)]
            near = [low, low + 1, high, high + 1]
            near += [t for place in places for t in (place - 1, place, place + 1) if low <= t <= high + 1]
            for ranking in self.rows_for(source, line, low, high):
                found = self.call(line_insert_ranges, line, low, high, ranking)
                for t in near:
                    rows = [row for row, first, last in runs(line, low, high) if first < t]
                    rest = [row for row, first, last in runs(line, low, high) if last >= t]
                    marks = sides((len(line), tuple((row, 1) for row in [*rows, ranking, *rest])))
                    expected = stays_seated(marks)
                    self.assertEqual(any(first <= t <= last for first, last in found), expected)
                for first, last in found:
                    self.assertTrue(low <= first <= last <= high + 1)
                # Two ranges are apart, or they would be one.
                self.assertTrue(all(one[1] + 1 < other[0] for one, other in zip(found, found[1:])))

    def test_one_taster(self):
        for t in (0, 6, TOP):
            for ranking in rankings(3):
                self.same(self.call(line_insert_ranges, L, t, t, ranking), ((t, t + 1),))

    def test_beyond_the_last_taster(self):
        line = ((0, 1), (TOP, 0))
        self.same(self.call(line_insert_ranges, line, 0, TOP, (0, 1)), ((TOP, TOP + 1),))
        self.same(self.call(line_insert_ranges, line, 0, TOP, (1, 0)), ((0, TOP),))
        self.same(self.call(line_insert_ranges, line, 0, TOP - 1, (0, 1)), ((0, 0), (TOP, TOP)))
        self.same(self.call(line_insert_ranges, line, 0, TOP - 1, (1, 0)), ((0, TOP),))

    def test_nowhere(self):
        # It would have to sit before one change and behind a later one.
        line = ((0, 2), (6, 1), (30, 0))
        self.same(self.call(line_insert_ranges, line, 0, 40, (1, 0, 2)), ())
        # It would have to sit between two changes, but on another pair nobody is like it.
        line = ((0, 2), (6, 1), (30, 0), (200, 0))
        self.same(self.call(line_insert_ranges, line, 0, 40, (3, 2, 0, 1)), ((6, 15),))
        self.same(self.call(line_insert_ranges, line, 0, 40, (2, 3, 0, 1)), ())

    def test_no_ranking(self):
        wrong = [value for size in range(5) for value in product(range(-1, 4), repeat=size)]
        wrong = [value for value in wrong if sorted(value) != [0, 1, 2]][::7]
        for ranking in [*wrong, *odd_values(), *spoiled((0, 1, 2)), (0, 1, True), (False, 1, 2), [0, 1, 2], "0>1>2"]:
            with self.subTest(ranking=ranking):
                for low, high in ((0, 10), (6, 6)):
                    self.fails(NoRanking, {"ranking": ranking}, line_insert_ranges, L, low, high, ranking)

    def test_no_span_comes_first(self):
        for low, high in wrong_spans():
            for ranking in ((0, 1, 2), (0, 1), None, [0, 1, 2], True):
                self.fails(NoSpan, {}, line_insert_ranges, L, low, high, ranking)


class Tables(Case):

    def test_places(self):
        source = random.Random(20)
        for line in short_lines() + long_lines():
            for many in (1, 2, 3, 15, 16):
                for reach in (20, TOP):
                    places = tuple(sorted(source.sample(range(reach + 1), many)))
                    expected = (len(line), tuple((line_ranked(line, t), 1) for t in places))
                    self.same(self.call(line_table, line, places), expected)

    def test_both_ends(self):
        for line in long_lines():
            expected = (len(line), ((line_ranked(line, 0), 1), (line_ranked(line, TOP), 1)))
            self.same(self.call(line_table, line, (0, TOP)), expected)

    def test_no_places(self):
        wrong = [(), tuple(range(17)), tuple(range(18)), (1, 0), (0, 0), (3, 3, 4), (0, 2, 1), (-1,), (-1, 0)]
        wrong += [(TOP + 1,), (0, TOP + 1), (LONG,), (0, LONG), (True,), (False,), (0, True), (False, 1), (0, 1, True)]
        wrong += [[0], [0, 1], (0, [1]), (0, None), ("0",), "0", 0, None, {0: 1}, ((0, 1),), (0, (1,)), (0, 1, "2")]
        odd = [value for value in odd_values() if repr(value) != "(0,)"]
        for places in [*wrong, *odd, *spoiled((0, 1, 2))]:
            with self.subTest(places=places):
                if places != () or not isinstance(places, tuple):
                    self.fails(NoPlaces, {}, line_table, L, places)
        self.fails(NoPlaces, {}, line_table, L, ())
        for line in (((0, 0),), long_lines()[0]):
            self.fails(NoPlaces, {}, line_table, line, (5, 4))


class Speed(Case):

    def test_short_time(self):
        start = time.perf_counter()
        for line in long_lines():
            dishes = len(line)
            line_support(line, 0, TOP, 0, 1)
            line_medians(line, 0, TOP)
            line_choices(line, 0, TOP, tuple(range(dishes)))
            line_cost(line, 0, TOP, (0,))
            line_insert_ranges(line, 0, TOP, tuple(range(dishes)))
        self.assertLess(time.perf_counter() - start, 5)
