"""The example sessions of the document, by the points that show them."""

import re

from helper import Case
from tasterow import errors

SESSIONS = {
    6: """
>>> from tasterow.rankings import is_ranking
>>> is_ranking(3, (2, 0, 1))
True
>>> is_ranking(3, (0, 1, True))
False
""",
    7: """
>>> from tasterow.rankings import reverse_ranking
>>> reverse_ranking((2, 0, 1))
(1, 0, 2)
""",
    8: """
>>> from tasterow.rankings import ranking_index
>>> ranking_index((1, 0, 2))
2
""",
    9: """
>>> from tasterow.rankings import ranking_at
>>> ranking_at(3, 2)
(1, 0, 2)
>>> ranking_at(3, 6)
raises NoIndex(6)
""",
    10: """
>>> from tasterow.rankings import differences
>>> differences((0, 1, 2), (1, 0, 2))
((0, 1),)
""",
    11: """
>>> from tasterow.rankings import distance
>>> distance((0, 1, 2), (2, 1, 0))
3
""",
    12: """
>>> from tasterow.rankings import is_between
>>> is_between((0, 1, 2), (2, 1, 0), (1, 0, 2))
True
>>> is_between((0, 1, 2), (1, 0, 2), (2, 1, 0))
False
""",
}


def steps(session):
    """Split a session into (code, expected line or None)."""
    return re.findall(r"^>>> (.*)\n(?!>>> )(.*)$|^>>> (.*)$", session, re.MULTILINE)


class Examples(Case):

    def run_step(self, code, expected, names):
        try:
            result = repr(eval(code, names))
        except errors.TasteError as error:
            self.assertTrue(expected.startswith("raises "), code)
            self.check_error(error, expected[len("raises "):])
        else:
            self.assertEqual(result, expected, code)

    def check_error(self, error, expected):
        name, bracket, rest = expected.partition("(")
        self.assertEqual(type(error).__name__, name)
        if bracket:
            wanted = eval(expected, dict(vars(errors)))
            self.same(vars(error), vars(wanted))

    def test_sessions(self):
        for point, session in SESSIONS.items():
            with self.subTest(point=point):
                names = {}
                for code, expected, silent in steps(session):
                    if expected:
                        self.run_step(code, expected, names)
                    else:
                        exec(silent or code, names)

    def test_no_line_of_a_session_is_passed_over(self):
        for point, session in SESSIONS.items():
            lines = [line for line in session.splitlines() if line]
            read = [part for step in steps(session) for part in step if part]
            with self.subTest(point=point):
                self.assertEqual(len(read), len(lines))
