"""The example sessions of the document, by the points that show them."""

import re

from helper import Case
from tasterow import errors

SESSIONS = {
    6: """
>>> from tasterow.rankings import is_ranking
>>> is_ranking(3, (2, 0, 1))
True
>>> is_ranking(3, (0, 1, True))
False
""",
    7: """
>>> from tasterow.rankings import reverse_ranking
>>> reverse_ranking((2, 0, 1))
(1, 0, 2)
""",
    8: """
>>> from tasterow.rankings import ranking_index
>>> ranking_index((1, 0, 2))
2
""",
    9: """
>>> from tasterow.rankings import ranking_at
>>> ranking_at(3, 2)
(1, 0, 2)
>>> ranking_at(3, 6)
raises NoIndex(6)
""",
    10: """
>>> from tasterow.rankings import differences
>>> differences((0, 1, 2), (1, 0, 2))
((0, 1),)
""",
    11: """
>>> from tasterow.rankings import distance
>>> distance((0, 1, 2), (2, 1, 0))
3
""",
    12: """
>>> from tasterow.rankings import is_between
>>> is_between((0, 1, 2), (2, 1, 0), (1, 0, 2))
True
>>> is_between((0, 1, 2), (1, 0, 2), (2, 1, 0))
False
""",
    14: """
>>> from tasterow.tables import is_table
>>> T = (3, (((0, 1, 2), 1), ((2, 1, 0), 1), ((1, 0, 2), 2)))
>>> is_table(T)
True
>>> is_table((3, ()))
False
""",
    15: """
>>> from tasterow.tables import rankings_of
>>> T = (3, (((0, 1, 2), 1), ((2, 1, 0), 1), ((1, 0, 2), 2)))
>>> rankings_of(T)
((0, 1, 2), (2, 1, 0), (1, 0, 2))
""",
    16: """
>>> from tasterow.tables import total_weight
>>> T = (3, (((0, 1, 2), 1), ((2, 1, 0), 1), ((1, 0, 2), 2)))
>>> total_weight(T)
4
""",
    17: """
>>> from tasterow.tables import groups
>>> groups((2, (((0, 1), 1), ((1, 0), 1), ((0, 1), 5))))
((0, 2), (1,))
""",
    18: """
>>> from tasterow.tables import add_taster
>>> T = (3, (((0, 1, 2), 1), ((2, 1, 0), 1), ((1, 0, 2), 2)))
>>> U = (3, (((0, 1, 2), 1), ((2, 1, 0), 1), ((1, 0, 2), 2), ((0, 2, 1), 1)))
>>> add_taster(T, (0, 2, 1), 1) == U
True
>>> add_taster(T, (0, 1), 1)
raises NoRanking((0, 1))
""",
    19: """
>>> from tasterow.tables import remove_taster
>>> T = (3, (((0, 1, 2), 1), ((2, 1, 0), 1), ((1, 0, 2), 2)))
>>> U = (3, (((0, 1, 2), 1), ((2, 1, 0), 1), ((1, 0, 2), 2), ((0, 2, 1), 1)))
>>> remove_taster(U, 3) == T
True
>>> remove_taster(T, 3)
raises NoTaster(3)
""",
    20: """
>>> from tasterow.tables import remove_dish
>>> T = (3, (((0, 1, 2), 1), ((2, 1, 0), 1), ((1, 0, 2), 2)))
>>> remove_dish(T, 0)
(2, (((0, 1), 1), ((1, 0), 1), ((0, 1), 2)))
""",
    21: """
>>> from tasterow.tables import restrict
>>> T = (3, (((0, 1, 2), 1), ((2, 1, 0), 1), ((1, 0, 2), 2)))
>>> restrict(T, (1, 2))
(2, (((0, 1), 1), ((1, 0), 1), ((0, 1), 2)))
>>> restrict(T, (2, 1))
raises NoMenu
""",
    23: """
>>> from tasterow.seatings import is_seating
>>> T = (3, (((0, 1, 2), 1), ((2, 1, 0), 1), ((1, 0, 2), 2)))
>>> is_seating(T, (0, 2, 1))
True
>>> is_seating(T, (0, 1, 2))
False
""",
    24: """
>>> from tasterow.seatings import splits
>>> T = (3, (((0, 1, 2), 1), ((2, 1, 0), 1), ((1, 0, 2), 2)))
>>> splits(T, 0)
((1,), (1, 2))
""",
    26: """
>>> from tasterow.obstructions import is_obstruction
>>> U = (3, (((0, 1, 2), 1), ((2, 1, 0), 1), ((1, 0, 2), 2), ((0, 2, 1), 1)))
>>> is_obstruction(U, ('quadruple', (0, 1, 2, 3), ((0, 1), (1, 2))))
True
>>> is_obstruction(U, ('triple', (1, 2, 3), ((0, 2), (1, 2), (0, 1))))
True
""",
    27: """
>>> from tasterow.obstructions import first_seating
>>> T = (3, (((0, 1, 2), 1), ((2, 1, 0), 1), ((1, 0, 2), 2)))
>>> first_seating(T)
(0, 2, 1)
>>> U = (3, (((0, 1, 2), 1), ((2, 1, 0), 1), ((1, 0, 2), 2), ((0, 2, 1), 1)))
>>> first_seating(U)
raises NotSeatable
""",
    28: """
>>> from tasterow.obstructions import certificate
>>> T = (3, (((0, 1, 2), 1), ((2, 1, 0), 1), ((1, 0, 2), 2)))
>>> certificate(T)
('seating', (0, 2, 1))
""",
    29: """
>>> from tasterow.obstructions import is_certificate
>>> T = (3, (((0, 1, 2), 1), ((2, 1, 0), 1), ((1, 0, 2), 2)))
>>> is_certificate(T, ('seating', (1, 2, 0)))
True
>>> U = (3, (((0, 1, 2), 1), ((2, 1, 0), 1), ((1, 0, 2), 2), ((0, 2, 1), 1)))
>>> is_certificate(U, ('seating', (0, 2, 1, 3)))
False
""",
    30: """
>>> from tasterow.obstructions import minimal_conflicts
>>> U = (3, (((0, 1, 2), 1), ((2, 1, 0), 1), ((1, 0, 2), 2), ((0, 2, 1), 1)))
>>> minimal_conflicts(U)
((1, 2, 3),)
""",
    32: """
>>> from tasterow.counting import count_seatings
>>> T = (3, (((0, 1, 2), 1), ((2, 1, 0), 1), ((1, 0, 2), 2)))
>>> count_seatings(T)
2
>>> U = (3, (((0, 1, 2), 1), ((2, 1, 0), 1), ((1, 0, 2), 2), ((0, 2, 1), 1)))
>>> count_seatings(U)
0
""",
    33: """
>>> from tasterow.counting import seating_at
>>> T = (3, (((0, 1, 2), 1), ((2, 1, 0), 1), ((1, 0, 2), 2)))
>>> seating_at(T, 1)
(1, 2, 0)
>>> seating_at(T, 2)
raises NoIndex(2)
""",
    34: """
>>> from tasterow.counting import seating_index
>>> T = (3, (((0, 1, 2), 1), ((2, 1, 0), 1), ((1, 0, 2), 2)))
>>> seating_index(T, (1, 2, 0))
1
>>> seating_index(T, (0, 1, 2))
raises NoSeating
""",
    35: """
>>> from tasterow.counting import group_order
>>> T = (3, (((0, 1, 2), 1), ((2, 1, 0), 1), ((1, 0, 2), 2)))
>>> group_order(T)
((0,), (2,), (1,))
""",
    37: """
>>> from tasterow.majorities import support
>>> T = (3, (((0, 1, 2), 1), ((2, 1, 0), 1), ((1, 0, 2), 2)))
>>> support(T, 1, 0)
3
>>> support(T, 1, 1)
raises NoDish(1)
""",
    38: """
>>> from tasterow.majorities import majority
>>> T = (3, (((0, 1, 2), 1), ((2, 1, 0), 1), ((1, 0, 2), 2)))
>>> majority(T)
((0, 2), (1, 0), (1, 2))
""",
    39: """
>>> from tasterow.majorities import ties
>>> ties((2, (((0, 1), 1), ((1, 0), 1))))
((0, 1),)
""",
    40: """
>>> from tasterow.majorities import medians
>>> T = (3, (((0, 1, 2), 1), ((2, 1, 0), 1), ((1, 0, 2), 2)))
>>> medians(T)
((1, 0, 2),)
>>> medians((2, (((0, 1), 1), ((1, 0), 1))))
((0, 1), (1, 0))
""",
    42: """
>>> from tasterow.menus import is_menu
>>> T = (3, (((0, 1, 2), 1), ((2, 1, 0), 1), ((1, 0, 2), 2)))
>>> is_menu(T, (0, 2))
True
>>> is_menu(T, (2, 0))
False
""",
    43: """
>>> from tasterow.menus import choices
>>> T = (3, (((0, 1, 2), 1), ((2, 1, 0), 1), ((1, 0, 2), 2)))
>>> choices(T, (0, 2))
(0, 2, 0)
""",
    44: """
>>> from tasterow.menus import blocks
>>> T = (3, (((0, 1, 2), 1), ((2, 1, 0), 1), ((1, 0, 2), 2)))
>>> blocks(T, (0, 2))
((0, 0, 1), (2, 2, 2))
""",
    45: """
>>> from tasterow.menus import cost
>>> T = (3, (((0, 1, 2), 1), ((2, 1, 0), 1), ((1, 0, 2), 2)))
>>> cost(T, (0, 2))
2
""",
    46: """
>>> from tasterow.menus import best_menu
>>> T = (3, (((0, 1, 2), 1), ((2, 1, 0), 1), ((1, 0, 2), 2)))
>>> best_menu(T, 1)
(1,)
>>> best_menu(T, 4)
raises NoSize(4)
""",
    47: """
>>> from tasterow.menus import block_cost
>>> T = (3, (((0, 1, 2), 1), ((2, 1, 0), 1), ((1, 0, 2), 2)))
>>> block_cost(T, (0, 2, 1), (2,))
1
>>> block_cost(T, (0, 2, 1), (3,))
raises NoCuts
""",
    49: """
>>> from tasterow.swaps import swap_path
>>> swap_path((0, 1, 2), (2, 1, 0))
((0, 1, 2), (1, 0, 2), (1, 2, 0), (2, 1, 0))
""",
    50: """
>>> from tasterow.swaps import is_shortest_path
>>> is_shortest_path((0, 1), (1, 0), ((0, 1), (1, 0)))
True
>>> is_shortest_path((0, 1), (0, 1), ())
False
""",
    51: """
>>> from tasterow.swaps import count_shortest_paths
>>> count_shortest_paths((0, 1, 2), (2, 1, 0))
2
""",
    53: """
>>> from tasterow.chains import chain
>>> T = (3, (((0, 1, 2), 1), ((2, 1, 0), 1), ((1, 0, 2), 2)))
>>> chain(T)
((0, 1, 2), (1, 0, 2), (1, 2, 0), (2, 1, 0))
""",
    54: """
>>> from tasterow.chains import is_chain
>>> T = (3, (((0, 1, 2), 1), ((2, 1, 0), 1), ((1, 0, 2), 2)))
>>> is_chain(T, ((0, 1, 2), (0, 2, 1), (2, 0, 1), (2, 1, 0)))
False
""",
    55: """
>>> from tasterow.chains import full_chain
>>> full_chain((2, (((0, 1), 1),)))
((0, 1), (1, 0))
""",
    56: """
>>> from tasterow.chains import is_full_chain
>>> T = (3, (((0, 1, 2), 1), ((2, 1, 0), 1), ((1, 0, 2), 2)))
>>> is_full_chain(T, ((2, 1, 0), (1, 2, 0), (1, 0, 2), (0, 1, 2)))
True
""",
    58: """
>>> from tasterow.extensions import can_add
>>> T = (3, (((0, 1, 2), 1), ((2, 1, 0), 1), ((1, 0, 2), 2)))
>>> can_add(T, (1, 2, 0))
True
>>> can_add(T, (0, 2, 1))
False
""",
    59: """
>>> from tasterow.extensions import insert_positions
>>> T = (3, (((0, 1, 2), 1), ((2, 1, 0), 1), ((1, 0, 2), 2)))
>>> insert_positions(T, (1, 2, 0))
(2,)
>>> insert_positions(T, (1, 0, 2))
(1, 2)
""",
    60: """
>>> from tasterow.extensions import add_certificate
>>> T = (3, (((0, 1, 2), 1), ((2, 1, 0), 1), ((1, 0, 2), 2)))
>>> add_certificate(T, (1, 2, 0))
('position', 2)
""",
    61: """
>>> from tasterow.extensions import is_add_certificate
>>> T = (3, (((0, 1, 2), 1), ((2, 1, 0), 1), ((1, 0, 2), 2)))
>>> is_add_certificate(T, (0, 2, 1), ('obstruction', ('quadruple', (0, 1, 2, 3), ((0, 1), (1, 2)))))
True
""",
    62: """
>>> from tasterow.extensions import addable_rankings
>>> T = (3, (((0, 1, 2), 1), ((2, 1, 0), 1), ((1, 0, 2), 2)))
>>> addable_rankings(T)
((0, 1, 2), (1, 0, 2), (1, 2, 0), (2, 1, 0))
""",
    64: """
>>> from tasterow.subsets import heaviest_subset
>>> U = (3, (((0, 1, 2), 1), ((2, 1, 0), 1), ((1, 0, 2), 2), ((0, 2, 1), 1)))
>>> heaviest_subset(U)[0]
4
""",
    65: """
>>> from tasterow.subsets import level_certificate
>>> T = (3, (((0, 1, 2), 1), ((2, 1, 0), 1), ((1, 0, 2), 2)))
>>> level_certificate(T)
(4, (0, 1, 2), ((1, 4, 3), (4, 1, 3), (3, 3, 2)))
""",
    66: """
>>> from tasterow.subsets import is_level_certificate
>>> T = (3, (((0, 1, 2), 1), ((2, 1, 0), 1), ((1, 0, 2), 2)))
>>> is_level_certificate(T, (4, (0, 1, 2), ((1, 4, 3), (4, 1, 3), (4, 3, 2))))
True
>>> is_level_certificate(T, (4, (0, 1, 2), ((1, 3, 3), (4, 1, 3), (3, 3, 2))))
False
""",
    68: """
>>> from tasterow.lines import is_line
>>> L = ((0, 1), (5, 0), (10, -1))
>>> is_line(L)
True
>>> is_line(())
False
""",
    69: """
>>> from tasterow.lines import line_ranking
>>> L = ((0, 1), (5, 0), (10, -1))
>>> line_ranking(L, 4)
(2, 1, 0)
>>> line_ranking(L, 5)
(0, 1, 2)
""",
    70: """
>>> from tasterow.lines import line_segments
>>> L = ((0, 1), (5, 0), (10, -1))
>>> line_segments(L, 0, 10)
((0, 4, (2, 1, 0)), (5, 10, (0, 1, 2)))
""",
    71: """
>>> from tasterow.lines import line_distance
>>> L = ((0, 1), (5, 0), (10, -1))
>>> line_distance(L, 0, 10)
3
>>> line_distance(L, 5, 4)
raises NoSpan
""",
    72: """
>>> from tasterow.lines import line_changes
>>> L = ((0, 1), (5, 0), (10, -1))
>>> line_changes(L, 0, 10)
((5, (0, 1)), (5, (0, 2)), (5, (1, 2)))
""",
    73: """
>>> from tasterow.spans import line_support
>>> L = ((0, 1), (5, 0), (10, -1))
>>> line_support(L, 0, 10, 0, 1)
6
""",
    74: """
>>> from tasterow.spans import line_medians
>>> L = ((0, 1), (5, 0), (10, -1))
>>> line_medians(L, 0, 10)
((0, 1, 2),)
>>> line_medians(L, 4, 5)
((0, 1, 2), (2, 1, 0))
""",
    75: """
>>> from tasterow.spans import line_choices
>>> L = ((0, 1), (5, 0), (10, -1))
>>> line_choices(L, 0, 10, (1, 2))
((2, 0, 4), (1, 5, 10))
""",
    76: """
>>> from tasterow.spans import line_cost
>>> L = ((0, 1), (5, 0), (10, -1))
>>> line_cost(L, 0, 10, (1, 2))
6
""",
    77: """
>>> from tasterow.spans import line_insert_ranges
>>> L = ((0, 1), (5, 0), (10, -1))
>>> line_insert_ranges(L, 0, 10, (1, 2, 0))
((5, 5),)
>>> line_insert_ranges(L, 6, 8, (1, 2, 0))
((6, 6), (9, 9))
>>> line_insert_ranges(L, 6, 6, (1, 2, 0))
((6, 7),)
""",
    78: """
>>> from tasterow.spans import line_table
>>> L = ((0, 1), (5, 0), (10, -1))
>>> line_table(L, (0, 5))
(3, (((2, 1, 0), 1), ((0, 1, 2), 1)))
""",
    80: """
>>> from tasterow.boards import Board
>>> b = Board(3)
>>> str(b)
'board of 3 dishes, 0 tasters, weight 0'
>>> Board(9)
raises BadDishes(9)
""",
    81: """
>>> from tasterow.boards import GuardedBoard
>>> b = GuardedBoard(3)
>>> b.add('a', (0, 1, 2), 1)
>>> b.add('b', (2, 1, 0), 1)
>>> b.add('c', (1, 0, 2), 2)
>>> b.add('d', (0, 2, 1), 1)
raises Blocked
""",
    82: """
>>> from tasterow.boards import Board
>>> b = Board(3)
>>> b.add('a', (0, 1, 2), 5)
>>> b.weight_of('a')
5
>>> b = Board(3)
>>> b.add('A', (0, 1, 2), 5)
raises NoName('A')
""",
    83: """
>>> from tasterow.boards import Board
>>> b = Board(3)
>>> b.add('a', (0, 1, 2), 5)
>>> b.discard('a')
>>> b.names()
()
""",
    84: """
>>> from tasterow.boards import Board
>>> b = Board(3)
>>> b.add('a', (0, 1, 2), 5)
>>> b.set_ranking('a', (0, 1))
raises NoRanking((0, 1))
""",
    85: """
>>> from tasterow.boards import Board
>>> b = Board(3)
>>> b.add('a', (0, 1, 2), 5)
>>> b.set_weight('a', 0)
raises NoWeight(0)
""",
    86: """
>>> from tasterow.boards import Board
>>> b = Board(3)
>>> b.add('a', (0, 1, 2), 5)
>>> b.drop_dish(1)
>>> b.ranking_of('a')
(0, 1)
""",
    87: """
>>> from tasterow.boards import Board
>>> b = Board(3)
>>> b.undo()
raises NothingToUndo
""",
    88: """
>>> from tasterow.boards import Board
>>> b = Board(3)
>>> b.apply_all([('add', 'a', (0, 1, 2), 1), ('discard', 'x')])
raises Failed(1)
>>> b = Board(3)
>>> b.apply_all([('add', 'a', (0, 1, 2), 1), ('drop_dish', 2)])
>>> len(b)
2
""",
    89: """
>>> from tasterow.boards import Board
>>> b = Board(3)
>>> b.add('a', (0, 1, 2), 1)
>>> b.undo()
>>> b.log()
(('add', 'done'), ('undo', 'done'))
""",
    90: """
>>> from tasterow.boards import Board
>>> b = Board(3)
>>> b.drop_dish(0)
>>> (b.dish_count(), b.dish_count(at=0), b.names())
(2, 3, ())
""",
    91: """
>>> from tasterow.boards import Board
>>> b = Board(3)
>>> b.ranking_of('x')
raises UnknownName('x')
""",
    92: """
>>> from tasterow.boards import Board
>>> Board(3).table()
raises Empty
""",
    93: """
>>> from tasterow.boards import Board
>>> b = Board(3)
>>> b.add('a', (0, 1, 2), 1)
>>> b.add('b', (2, 1, 0), 1)
>>> b.add('c', (1, 0, 2), 2)
>>> b.seating()
('a', 'c', 'b')
""",
    94: """
>>> from tasterow.boards import Board
>>> Board(3).is_seatable()
True
""",
    95: """
>>> from tasterow.boards import Board
>>> b = Board(3)
>>> b.clone() == b
True
""",
    98: """
>>> from tasterow.texts import format_ranking
>>> format_ranking((2, 0, 1))
'2>0>1'
""",
    99: """
>>> from tasterow.texts import format_table
>>> format_table((2, (((1, 0), 7),)))
'2\\n7 1>0\\n'
""",
    100: """
>>> from tasterow.texts import format_seating
>>> format_seating((0, 2, 1))
'0 2 1'
""",
    101: """
>>> from tasterow.texts import format_obstruction
>>> format_obstruction(('triple', (1, 2, 3), ((0, 2), (1, 2), (0, 1))))
'triple 1,2,3 0-2,1-2,0-1'
""",
    102: """
>>> from tasterow.texts import parse_ranking
>>> parse_ranking('2>0>1')
(2, 0, 1)
>>> parse_ranking('0>2')
raises BadText(0)
""",
    103: """
>>> from tasterow.texts import parse_table
>>> parse_table('2\\n')
raises BadText(1)
>>> parse_table('2\\n7 1>0')
raises BadText(1)
>>> parse_table('')
raises BadText(0)
""",
    104: """
>>> from tasterow.texts import parse_obstruction
>>> parse_obstruction('quadruple 0,1,2,3 0-1,1-2')
('quadruple', (0, 1, 2, 3), ((0, 1), (1, 2)))
""",
    105: """
>>> from tasterow.boards import Board
>>> from tasterow.consoles import Console
>>> b = Board(3)
>>> c = Console(b)
>>> answer = c.execute('drop_dish 0')
>>> (answer, b.dish_count())
('done', 2)
""",
    106: """
>>> from tasterow.boards import Board
>>> from tasterow.consoles import Console
>>> c = Console(Board(3))
>>> c.execute('discard x')
'error UnknownName'
>>> c = Console(Board(3))
>>> c.execute('discard')
'syntax error'
""",
    107: """
>>> from tasterow.boards import Board
>>> from tasterow.consoles import Console
>>> c = Console(Board(3))
>>> one = c.execute('undo')
>>> other = c.execute(None)
>>> c.history()
(('undo', 'error NothingToUndo'), (None, 'syntax error'))
""",
}


def steps(session):
    """Split a session into (code, expected line or None)."""
    return re.findall(r"^>>> (.*)\n(?!>>> )(.*)$|^>>> (.*)$", session, re.MULTILINE)


class Examples(Case):

    def run_step(self, code, expected, names):
        try:
            result = repr(eval(code, names))
        except errors.TasteError as error:
            self.assertTrue(expected.startswith("raises "), code)
            self.check_error(error, expected[len("raises "):])
        else:
            self.assertEqual(result, expected, code)

    def check_error(self, error, expected):
        name, bracket, rest = expected.partition("(")
        self.assertEqual(type(error).__name__, name)
        if bracket:
            wanted = eval(expected, dict(vars(errors)))
            self.same(vars(error), vars(wanted))

    def test_sessions(self):
        for point, session in SESSIONS.items():
            with self.subTest(point=point):
                names = {}
                for code, expected, silent in steps(session):
                    if expected:
                        self.run_step(code, expected, names)
                    else:
                        exec(silent or code, names)

    def test_no_line_of_a_session_is_passed_over(self):
        for point, session in SESSIONS.items():
            lines = [line for line in session.splitlines() if line]
            read = [part for step in steps(session) for part in step if part]
            with self.subTest(point=point):
                self.assertEqual(len(read), len(lines))
