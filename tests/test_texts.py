"""Points 97 to 104: texts."""

import random
from itertools import combinations, product

from helper import FOUR, LONG, T, TOP, U, Case, large_tables, odd_values, rankings, small_tables
from tasterow.errors import BadText
from tasterow.texts import (
    format_obstruction, format_ranking, format_seating, format_table, parse_obstruction, parse_ranking, parse_table,
)

DIGITS = "0123456789"
# What stands where only digits may stand: signs, blanks, leading zeros, fourteen digits.
WRONG_NUMBERS = ["", "00", "01", "-1", "+1", " 1", "1 ", "1\n", "a", "1a", "1.0", "1e3", "0x1", "1_0", "10000000000000"]
WRONG_NUMBERS += [form.format(chr(code)) for code in range(33, 127) if not 48 <= code <= 57 for form in ("{}", "1{}1")]
NOT_STRINGS = [value for value in odd_values() if not isinstance(value, str)] + [b"0", [DIGITS]]


def write_ranking(ranking):
    text = str(ranking[0])
    for dish in ranking[1:]:
        text = text + ">" + str(dish)
    return text


def write_table(table):
    text = str(table[0]) + "\n"
    for ranking, weight in table[1]:
        text = text + str(weight) + " " + write_ranking(ranking) + "\n"
    return text


def some_rankings():
    source = random.Random(27)
    found = [ranking for dishes in range(1, 6) for ranking in rankings(dishes)]
    return found + [tuple(source.sample(range(dishes), dishes)) for dishes in (6, 7, 8) for attempt in range(30)]


def some_tables():
    heavy = [(3, (((0, 1, 2), weight), ((2, 1, 0), TOP))) for weight in (1, 9, 10, 99, 10 ** 11, TOP - 1, TOP)]
    one = [(dishes, ((tuple(range(dishes))[::-1], 5),)) for dishes in range(1, 9)]
    return [T, U, FOUR, *heavy, *one, *small_tables()[::5], *[table for table, rows in large_tables()]]


def some_obstructions():
    """Values of both forms, with numbers up to both limits."""
    source = random.Random(28)
    pairs = list(combinations(range(8), 2))
    found = [("triple", (14, 15, 16), (pairs[-1],) * 3), ("quadruple", (0, 1, 15, 16), (pairs[0], pairs[-1]))]
    for attempt in range(200):
        found.append(("triple", tuple(sorted(source.sample(range(17), 3))), tuple(source.choices(pairs, k=3))))
        found.append(("quadruple", tuple(sorted(source.sample(range(17), 4))), tuple(sorted(source.sample(pairs, 2)))))
    return found


def write_obstruction(value):
    word, tasters, pairs = value
    text = word + " " + ",".join(str(taster) for taster in tasters)
    return text + " " + ",".join(str(low) + "-" + str(high) for low, high in pairs)


def edits(text, signs):
    """The text with one character left out, replaced or added."""
    found = []
    for at in range(len(text) + 1):
        found += [text[:at] + sign + text[at:] for sign in signs]
        if at < len(text):
            found.append(text[:at] + text[at + 1:])
            found += [text[:at] + sign + text[at + 1:] for sign in signs]
    return found


class Written(Case):

    def test_rankings(self):
        for ranking in some_rankings():
            self.same(self.call(format_ranking, ranking), write_ranking(ranking))

    def test_tables(self):
        for table in some_tables():
            self.same(self.call(format_table, table), write_table(table))
        self.same(format_table((1, (((0,), TOP),))), "1\n1000000000000 0\n")

    def test_seatings(self):
        self.same(self.call(format_seating, (0,)), "0")
        self.same(self.call(format_seating, (1, 0)), "1 0")
        row = (15, 0, 14, 1, 13, 2, 12, 3, 11, 4, 10, 5, 9, 6, 8, 7)
        self.same(self.call(format_seating, row), "15 0 14 1 13 2 12 3 11 4 10 5 9 6 8 7")

    def test_obstructions(self):
        for value in some_obstructions():
            self.same(self.call(format_obstruction, value), write_obstruction(value))
        self.same(format_obstruction(("triple", (0, 1, 16), ((0, 1), (6, 7), (0, 1)))), "triple 0,1,16 0-1,6-7,0-1")


class Rankings(Case):

    def bad(self, value, line=0):
        with self.subTest(value=value):
            self.fails(BadText, {"line": line}, parse_ranking, value)

    def test_read_back(self):
        for ranking in some_rankings():
            self.same(self.call(parse_ranking, write_ranking(ranking)), ranking)

    def test_every_short_text(self):
        good = {write_ranking(ranking): ranking for dishes in range(1, 4) for ranking in rankings(dishes)}
        for length in range(6):
            for signs in product("012>", repeat=length):
                text = "".join(signs)
                if text in good:
                    self.same(parse_ranking(text), good[text])
                else:
                    self.assertRaises(BadText, parse_ranking, text)

    def test_one_character_changed(self):
        good = {write_ranking(ranking): ranking for dishes in range(1, 5) for ranking in rankings(dishes)}
        for text in ("0", "1>0", "2>0>1", "3>1>0>2"):
            for other in edits(text, "0123> -,\n"):
                if other in good:
                    self.same(self.call(parse_ranking, other), good[other])
                else:
                    self.bad(other)

    def test_wrong_numbers(self):
        for number in WRONG_NUMBERS:
            for text in (number, f"0>{number}", f"{number}>0", f"0>{number}>2"):
                self.bad(text)
        for text in ("1", "0>2", "0>0", "1>2", "2>1>0>2", "9999999999999", ">", "0>", ">0", "0>>1", "0 > 1", "0<1"):
            self.bad(text)

    def test_nine_dishes(self):
        self.same(self.call(parse_ranking, "0>1>2>3>4>5>6>7"), (0, 1, 2, 3, 4, 5, 6, 7))
        self.bad("0>1>2>3>4>5>6>7>8")
        self.bad(">".join(str(dish) for dish in range(1000)))

    def test_long_texts(self):
        for text in ("0" * 5000, ">" * 5000, "0>" * 2500, "\n" * 5000, "1>0" + " " * 4000):
            self.bad(text)

    def test_not_strings(self):
        for value in NOT_STRINGS:
            self.bad(value, None)


class Tables(Case):

    def bad(self, value, line):
        with self.subTest(value=value):
            self.fails(BadText, {"line": line}, parse_table, value)

    def test_read_back(self):
        for table in some_tables():
            self.same(self.call(parse_table, write_table(table)), table)

    def test_first_line(self):
        for number in [*WRONG_NUMBERS, "0", "9", "10", "9999999999999", "2 ", "2 7", "2>1"]:
            if "\n" not in number:
                self.bad(f"{number}\n7 1>0\n", 0)
                self.bad(f"{number}\n", 0)
                self.bad(f"{number}\nwrong\n", 0)
        for text in ("2", "1", "0", "x", " ", "7 1>0"):
            self.bad(text, 0)
        for text in ("", "\n", "\n\n", "\n2\n7 1>0\n", " 2\n7 1>0\n"):
            self.bad(text, 0)
        self.bad("1\n\n7 1>0\n", 1)

    def test_taster_lines(self):
        wrong = [f"{number} 1>0" for number in WRONG_NUMBERS] + [f"7 {number}>0" for number in WRONG_NUMBERS]
        wrong += [f"7 1>{number}" for number in WRONG_NUMBERS] + ["7", "7 ", " 7", "1>0", "1>0 7", "7  1>0", " 7 1>0"]
        wrong += ["7 1>0 ", "7 1>0 7", "7 1>0 1>0", "7 1 0", "7,1>0", "7\t1>0", "7 1<0", "7 0>1>2", "7 0", "7 1>1"]
        wrong += ["7 0>2", "0 1>0", "1000000000001 1>0", "9999999999999 1>0", "7 1>0>", "7 >1>0", "-7 1>0", "+7 1>0"]
        for line in wrong:
            if "\n" not in line:
                self.bad(f"2\n{line}\n", 1)
                self.bad(f"2\n{line}\n7 1>0\n", 1)
                self.bad(f"2\n7 1>0\n{line}\n", 2)
                self.bad(f"2\n7 1>0\n3 0>1\n{line}\nalso wrong", 3)
        for line in ("1 1>0", "1000000000000 1>0", "999999999999 0>1"):
            self.assertEqual(len(parse_table(f"2\n{line}\n7 1>0\n")[1]), 2)

    def test_line_ends(self):
        self.bad("2\n7 1>0", 1)
        self.bad("2\n7 1>0\n7 1>0", 2)
        self.bad("2\n7 1>0\n ", 2)
        self.bad("2\n7 1>0\n\n", 2)
        self.bad("2\n\n7 1>0\n", 1)
        self.bad("2\n7 1>0\n\n7 1>0\n", 2)
        self.bad("2\n7 1>0\nx", 2)
        self.bad("2\nx\n7 1>0", 1)
        self.bad("2\nx", 1)

    def test_no_taster_line(self):
        for dishes in range(1, 9):
            self.bad(f"{dishes}\n", 1)

    def test_seventeen_taster_lines(self):
        lines = ["7 1>0\n"] * 20
        self.assertEqual(len(parse_table("2\n" + "".join(lines[:16]))[1]), 16)
        for many in (17, 18, 20):
            self.bad("2\n" + "".join(lines[:many]), 17)
        self.bad("2\n" + "".join(lines[:16]) + "7 1>0", 17)
        self.bad("2\n" + "".join(lines[:16]) + "\n", 17)
        self.bad("2\n" + "".join(lines[:15]) + "x\n7 1>0\n", 16)
        self.bad("2\n" + "".join(lines[:16]) + "7 1>0\nx\n", 17)

    def test_other_numbers_of_dishes(self):
        for dishes in range(1, 9):
            for other in range(1, 10):
                line = "7 " + write_ranking(tuple(range(other)))
                if other == dishes:
                    self.assertEqual(len(parse_table(f"{dishes}\n{line}\n")[1]), 1)
                else:
                    self.bad(f"{dishes}\n{line}\n", 1)

    def expected_line(self, text):
        """The first line that is not correct, line by line; None if the text is that of a table."""
        lines = text.split("\n")
        for at, line in enumerate(lines[:-1]):
            if at == 0:
                correct = len(line) == 1 and line in "12345678"
            else:
                weight, blank, ranking = line.partition(" ")
                texts = [write_ranking(row) for row in rankings(int(lines[0]))]
                number = weight.isdigit() and str(int(weight)) == weight and 1 <= int(weight) <= TOP
                correct = number and ranking in texts and at <= 16
            if not correct:
                return at
        return len(lines) - 1 if lines[-1] or len(lines) < 3 else None

    def test_one_character_changed(self):
        for text in ("2\n7 1>0\n", "1\n10 0\n5 0\n", "3\n1 0>2>1\n"):
            for other in edits(text, "012> -\n"):
                line = self.expected_line(other)
                if line is None:
                    self.same(write_table(self.call(parse_table, other)), other)
                else:
                    self.bad(other, line)

    def test_long_texts(self):
        self.bad("2\n" * 2500, 1)
        self.bad("\n" * 5000, 0)
        self.bad("2" * 5000, 0)
        self.bad("2\n7 " + "0>" * 2000 + "0\n", 1)

    def test_not_strings(self):
        for value in NOT_STRINGS:
            self.bad(value, None)


class Obstructions(Case):

    def bad(self, value, line=0):
        with self.subTest(value=value):
            self.fails(BadText, {"line": line}, parse_obstruction, value)

    def test_read_back(self):
        for value in some_obstructions():
            self.same(self.call(parse_obstruction, write_obstruction(value)), value)

    def test_limits(self):
        self.same(parse_obstruction("triple 0,15,16 6-7,6-7,0-7"), ("triple", (0, 15, 16), ((6, 7), (6, 7), (0, 7))))
        for text in (
            "triple 0,15,17 0-1,0-1,0-1", "triple 0,1,2 0-8,0-1,0-1", "triple 0,1,2 0-1,0-1,7-8",
            "quadruple 0,1,2,17 0-1,0-2", "quadruple 0,1,2,3 0-1,0-8", "triple 0,1,9999999999999 0-1,0-1,0-1",
        ):
            self.bad(text)

    def test_order(self):
        for text in (
            "triple 1,0,2 0-1,0-1,0-1", "triple 0,0,2 0-1,0-1,0-1", "triple 0,2,2 0-1,0-1,0-1",
            "quadruple 0,1,3,2 0-1,0-2", "quadruple 0,1,2,3 0-2,0-1", "quadruple 0,1,2,3 0-1,0-1",
            "quadruple 0,1,2,3 1-0,0-2", "quadruple 0,1,2,3 0-1,2-2", "triple 0,1,2 1-1,0-1,0-1",
            "triple 0,1,2 0-1,2-0,0-1", "quadruple 0,1,2,3 1-2,0-3",
        ):
            self.bad(text)
        # Pairs of a triple may stand in any order and repeat.
        self.assertEqual(parse_obstruction("triple 0,1,2 1-2,0-1,0-1")[2], ((1, 2), (0, 1), (0, 1)))

    def test_numbers_of_parts(self):
        for word, many, length in product(("triple", "quadruple"), range(1, 7), range(1, 6)):
            tasters = ",".join(str(taster) for taster in range(many))
            pairs = ",".join(f"0-{dish}" for dish in range(1, length + 1))
            text = f"{word} {tasters} {pairs}"
            if (word, many, length) in (("triple", 3, 3), ("quadruple", 4, 2)):
                self.assertEqual(parse_obstruction(text)[0], word)
            else:
                self.bad(text)

    def test_wrong_numbers(self):
        for number in WRONG_NUMBERS:
            for text in (
                f"triple {number},4,5 0-1,0-1,0-1", f"triple 0,4,{number} 0-1,0-1,0-1",
                f"triple 0,{number},5 0-1,0-1,0-1",
                f"triple 0,1,2 {number}-5,0-1,0-1", f"triple 0,1,2 0-1,0-1,0-{number}",
                f"quadruple 0,1,2,{number} 0-1,0-2", f"quadruple 0,1,2,3 0-{number},3-4",
            ):
                self.bad(text)

    def test_one_character_changed(self):
        pairs = list(combinations(range(8), 2))
        for text in ("triple 1,2,3 0-2,1-2,0-1", "quadruple 0,1,2,3 0-1,1-2"):
            for other in edits(text, "0129,- \n>e"):
                parts = other.split(" ")
                try:
                    word, tasters, rest = parts
                    tasters = tuple(int(part) for part in tasters.split(","))
                    rest = tuple(tuple(int(dish) for dish in part.split("-")) for part in rest.split(","))
                    many, length = {"triple": (3, 3), "quadruple": (4, 2)}[word]
                    good = tasters in combinations(range(17), many) and len(rest) == length
                    good = good and all(pair in pairs for pair in rest) and (word == "triple" or rest[0] < rest[1])
                    good = good and write_obstruction((word, tasters, rest)) == other
                except (ValueError, KeyError):
                    good = False
                if good:
                    self.same(self.call(parse_obstruction, other), (word, tasters, rest))
                else:
                    self.bad(other)

    def test_other_texts(self):
        for text in (
            "", " ", "triple", "triple ", "triple 0,1,2", "triple 0,1,2 ", "Triple 0,1,2 0-1,0-1,0-1", "none",
            " triple 0,1,2 0-1,0-1,0-1", "triple 0,1,2 0-1,0-1,0-1 ", "triple  0,1,2 0-1,0-1,0-1",
            "triple 0,1,2  0-1,0-1,0-1", "triple 0,1,2 0-1,0-1,0-1\n", "seating 0,1,2 0-1,0-1,0-1",
            "triple 0 1 2 0-1 0-1 0-1", "triple 0,1,2 0-1-2,0-1,0-1", "triple 0,1,2 0,0-1,0-1",
            "triple 0,1,2 0-1,0-1,0-1 x", "triple 0,1,2, 0-1,0-1,0-1", "triple 0,1,2 0-1,0-1,0-1,", "x" * 5000,
            "triple," * 700, "quadruple 0,1,2 0-1,0-2", "triple 0,1,2,3 0-1,0-1,0-1", str(LONG),
        ):
            self.bad(text)

    def test_not_strings(self):
        for value in [*NOT_STRINGS, ("triple", (1, 2, 3), ((0, 2), (1, 2), (0, 1)))]:
            self.bad(value, None)
