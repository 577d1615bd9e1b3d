"""What the tests share: strict comparison, and values of unusual kinds."""

import unittest

LONG = int("9" * 60)


def odd_values():
    """Values of every kind that a caller may pass as `value`, made anew."""
    deep = ()
    for level in range(19):
        deep = (deep, level) if level & 1 else [deep, level]
    return [
        None, True, False, 0, 1, -1, 5, LONG, -LONG,
        "", "0", "012", "text\nlines\n" * 400,
        [], [0], [0, 1, 2], [[0], [1]],
        (), (0,), (None,), (True,), (False,), ("0",), ((0,),), ([0],), ({},),
        (LONG,), (-1, 0), (0, 0), ((0, 1), (1, 2)),
        {}, {0: 0}, {"a": [1, (2, None)]}, {(0, 1): {"b": ()}},
        deep, list(range(1990)), tuple(range(1990)),
    ]


class Case(unittest.TestCase):
    """A test case that tells True from 1 and watches arguments."""

    def same(self, actual, expected):
        # The repr tells kinds apart that are equal: 1 and True, also inside tuples.
        self.assertEqual(repr(actual), repr(expected))

    def call(self, function, *arguments):
        """Call twice: the results are the same and the arguments stay as they are."""
        before = repr(arguments)
        result = function(*arguments)
        self.assertEqual(repr(arguments), before)
        self.same(function(*arguments), result)
        self.assertEqual(repr(arguments), before)
        return result

    def fails(self, error, attributes, function, *arguments):
        """Call twice: each call raises just that error with just those attributes."""
        before = repr(arguments)
        for attempt in range(2):
            with self.assertRaises(error) as caught:
                function(*arguments)
            self.assertIs(type(caught.exception), error)
            found = vars(caught.exception)
            self.assertEqual(list(found), list(attributes))
            for name in attributes:
                self.assertIs(found[name], attributes[name])
            self.assertEqual(repr(arguments), before)
