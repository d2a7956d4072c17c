"""[F1] to [F6]: tables, closed under every step, that hold all runs."""

import random
import unittest

from soundlooks import tables
from soundlooks.errors import InvalidIndex, InvalidOrder, InvalidPlace, InvalidProgram, InvalidState, InvalidTable, NotClosed
from soundlooks.graphs import graph_of, numbers_at, rows_at
from soundlooks.looks import look_rank, look_within
from soundlooks.machine import first_state, kind_of, moved, states_of
from soundlooks.text import read
from soundlooks.trees import marks_of
from tests.drawing import Drawer, drawn_programs
from tests.helper import NUM, refused
from tests.reference import Tables
from tests.refusing import ODD, UNASKED, asked_in_order, given_wrongs, index_wrongs

# Programs with loops, words, rows, calls, a procedure that calls itself, open asks, and what is never reached.
TEXTS = (
    "proc main() { }",
    "num g; proc main() { num i; while (i < 10) { i = i + 1; g = g + 2; } give g; }",
    "proc main() { num x; ask x from 0 to 3; x = 6 div x; }",
    "word 4 w; proc main() { num n; ask n from any to any; while (w != 0 or n < 5) { w = w + 3; n = n + w; } }",
    "row 3 r; proc main() { num i; ask i from 0 to any; while (i < 3) { r[i] = i * 2; i = i + 1; } give r[i mod 3]; }",
    "num g; proc main() { num x; ask x from 0 to 5; x = call fact(x); g = x; give x; }"
    " proc fact(num n) { num m; if (n < 1) { give 1; } m = call fact(n - 1); give m * n; }",
    "proc main() { num x; num y; ask x from any to 20; ask y from -3 to any; while (x < y and not x == 7) { x = x + 2; y = y - 1; }"
    " check (y <= x or x == 7); if (x != x) { y = 1 div 0; } }",
    "num a; word 8 b; proc main() { a = 5; call up(250); call up(b); check (a < 300); give b; }"
    " proc up(word 8 k) { row 2 s; while (k < 255) { k = k + 1; s[k mod 2] = a; a = a + 1; } b = k + s[0]; }",
    "proc main() { num x; give 3; x = 1; while (x < 9) { x = x + 1; } }",
    "num g; proc main() { call even(9); } proc even(num n) { if (n == 0) { g = 1; give 1; } n = call odd(n - 1); give n; }"
    " proc odd(num n) { if (n == 0) { g = 2; give 0; } n = call even(n - 1); give n; }",
    "proc main() { num a; num b; num c; ask a from 0 to 50; b = a; c = 2 * a; while (0 < b) { b = b - 1; c = c - 2; } check (c == 0); }",
)
PROGRAMS = [read(text) for text in TEXTS]
LOOP = PROGRAMS[1]
HALF = PROGRAMS[2]
NOUGHT = (((0, 0),), ((0, 0),), ((0, 0), (0, 0)), ((1, 0),), ())
SOME = (((None, None),), ((0, 1),), ((0, None), (None, 0)), (), ())


def places_of(program):
    return tuple((proc, place) for proc in range(len(program[1])) for place in range(graph_of(program, proc)[0]))


def sight_at(program, proc, place):
    return (numbers_at(program, proc, place), rows_at(program, proc, place))


def with_look(table, key, look):
    proc, place = key
    return table[:proc] + (table[proc][:place] + (look,) + table[proc][place + 1:],) + table[proc + 1:]


def told(low, high):
    """A table of a program with three steps over num x that tells x at the place 1."""
    return ((NOUGHT, (((low, high),), ((0, 1),), ((0, -low), (high, 0)), (), ()), SOME, NOUGHT),)


class Analysing(unittest.TestCase):
    def test_half(self):
        table = tables.analysed(HALF, ())
        self.assertEqual(table, ((
            NOUGHT, (((0, 3),), ((0, 1),), ((0, 0), (3, 0)), (), ()), (((2, 6),), ((0, 1),), ((0, -2), (6, 0)), (), ()), NOUGHT),))
        # Marks - 7 to 7 and their like: 15; a look of one name has the rank 2 * 15 + 15 + 2 * 17 + 4 for None.
        self.assertEqual(marks_of(HALF), tuple(range(-7, -4)) + tuple(range(-4, 5)) + tuple(range(5, 8)))
        self.assertEqual(tables.changes_of(HALF, ()), (4, 4 * (45 + 34 + 4)))
        self.assertEqual(tables.number_of(HALF, tables.empty_table(HALF)), 4 * (45 + 34 + 4))

    def test_a_loop(self):
        table = tables.analysed(LOOP, ())
        at_door, at_end = table[0][0], table[0][-1]
        self.assertEqual(at_door[0][1], (0, 10))
        # g is twice i all along; i is 10 behind the loop, and g is given.
        self.assertEqual(at_door[3], ((1, -2, 0),))
        self.assertEqual(at_end, (((20, 20), (20, 20)), ((20, 0), (20, 0)), ((0, -20, -20), (20, 0, 0), (20, 0, 0)), ((1, -1, 0),), ()))
        self.assertEqual(tables.empty_table(LOOP), ((None,) * 6,))

    def test_what_is_never_reached(self):
        table = tables.analysed(PROGRAMS[8], ())
        self.assertEqual([look is None for look in table[0]], [False, True, True, True, True, False])
        table = tables.analysed(PROGRAMS[0], ())
        self.assertEqual(table[0], (((), (), ((0,),), (), ()), (((0, 0),), ((0, 0),), ((0, 0), (0, 0)), ((1, 0),), ())))
        # A procedure that nobody calls.
        lonely = read("proc main() { } proc f(num a) { give a; }")
        self.assertEqual(tables.analysed(lonely, ())[1], (None, None, None))
        # What loops for ever never comes home.
        forever = read("proc main() { call f(1); } proc f(num a) { while (0 < 1) { } }")
        found = tables.analysed(forever, ())
        self.assertEqual([look is None for look in found[0]], [False, True, True])
        self.assertIsNone(found[1][-1])

    def test_beside_the_reference(self):
        drawn = random.Random(5)
        programs = PROGRAMS + drawn_programs(101, 25) + drawn_programs(102, 40, tame=True)
        programs += drawn_programs(103, 20, tame=True, procs=1, deep=4) + drawn_programs(104, 25, tame=True, statements=4, wide=1)
        depth = 0
        for program in programs:
            places = places_of(program)
            order = tuple(drawn.choice(places) for _ in range(drawn.randint(0, 12)))
            changes, number = tables.changes_of(program, order)
            if len(places) > 40 or changes > 120:
                continue
            reference = Tables(program)
            self.assertEqual(tables.empty_table(program), reference.empty())
            table, told_changes = reference.analysed(order)
            self.assertEqual(tables.analysed(program, order), table)
            self.assertEqual((changes, number), (told_changes, reference.number(reference.empty())))
            self.assertEqual(tables.number_of(program, table), reference.number(table))
            key = drawn.choice(places)
            self.assertEqual(tables.coming(program, table, *key), reference.coming(table, *key))
            order = tuple(drawn.sample(places, min(3, len(places))))
            self.assertEqual(tables.narrowed(program, table, order), reference.narrowed(table, order))
            depth = max(depth, changes)
        self.assertGreater(depth, 40)


class Orders(unittest.TestCase):
    """For every order of looking."""

    def asked(self, program, drawn, orders, runs):
        places = places_of(program)
        empty = tables.empty_table(program)
        states = [state for given in runs for state in states_of(program, given, 80)]
        for at in range(orders):
            order = tuple(drawn.choice(places) for _ in range(drawn.choice((0, 3, 20, 60)))) if at else ()
            table = tables.analysed(program, order)
            self.assertTrue(tables.is_closed(program, table))
            self.assertIsNone(tables.open_place(program, table))
            changes, number = tables.changes_of(program, order)
            self.assertEqual(number, tables.number_of(program, empty))
            self.assertLessEqual(changes, number - tables.number_of(program, table))
            self.assertEqual(tables.looked(program, table, places[:300]), table)
            self.assert_held(program, table, states)
            behind = tables.looked(program, empty, order)
            self.assertEqual(tables.analysed(program, order), self.turned(program, behind, places))

    def turned(self, program, table, places):
        """Looked at all places in turn until nothing changes."""
        before = None
        while before != table:
            before, table = table, tables.looked(program, table, places)
        return table

    def assert_held(self, program, table, states):
        for state in states:
            self.assertTrue(tables.lies_in(program, table, state), (program, state))

    def test_told_programs(self):
        drawn = random.Random(6)
        for program in PROGRAMS:
            runs = [tuple(drawn.randint(-4, 9) for _ in range(4)) for _ in range(6)]
            self.asked(program, drawn, 4, runs)

    def test_drawn_programs(self):
        drawn = random.Random(7)
        for drawer in (Drawer(61), Drawer(62, tame=True), Drawer(63, tame=True, procs=3, statements=4, wide=1)):
            for _ in range(25):
                program = drawer.program()
                self.asked(program, drawn, 2, [drawer.inputs(6) for _ in range(4)])

    def test_words_and_numbers_at_their_ends(self):
        program = read("word 3 w; proc main() { num n; ask w from any to any; ask n from any to any; n = w - n; w = n * n; }")
        table = tables.analysed(program, ())
        for given in ((-1, 10 ** 300), (8, -10 ** 399), (7, 7), (2 ** 900, 2 ** 640)):
            self.assert_held(program, table, states_of(program, given, 300))


class Looking(unittest.TestCase):
    def test_looked_at(self):
        drawn = random.Random(8)
        for program in PROGRAMS + drawn_programs(71, 10, tame=True):
            places = places_of(program)
            reference = Tables(program)
            table = tables.empty_table(program)
            for _ in range(60):
                key = drawn.choice(places)
                behind = tables.looked_at(program, table, *key)
                came = tables.coming(program, table, *key)
                before = table[key[0]][key[1]]
                is_within = look_within(sight_at(program, *key), came, before)
                self.assertIs(behind == table, is_within)
                self.assertEqual(tables.looked(program, table, (key,)), behind)
                if not is_within:
                    self.assertEqual(with_look(behind, key, before), table)
                    self.assertLess(tables.number_of(program, behind), tables.number_of(program, table))
                    self.assertTrue(look_within(sight_at(program, *key), came, behind[key[0]][key[1]]))
                if drawn.random() < 0.1:
                    self.assertEqual(behind, reference.looked_at(table, *key))
                table = behind

    def test_number(self):
        for program in PROGRAMS:
            table = tables.analysed(program, ())
            marks = marks_of(program)
            ranks = [look_rank(sight_at(program, proc, place), marks, table[proc][place]) for proc, place in places_of(program)]
            self.assertEqual(tables.number_of(program, table), sum(ranks))

    def test_coming(self):
        table = tables.analysed(HALF, ())
        self.assertEqual([tables.coming(HALF, table, 0, place) for place in range(4)], list(table[0]))
        empty = tables.empty_table(HALF)
        self.assertEqual([tables.coming(HALF, empty, 0, place) for place in range(4)], [NOUGHT, None, None, None])
        # It is told, not exchanged: the look of 0 alone.
        program = read("num g; row 2 r; proc main() { }")
        self.assertEqual(tables.coming(program, tables.empty_table(program), 0, 0), NOUGHT[:4] + ((((0, 0), (0, 0)),),))

    def test_coming_joins_all_calls(self):
        program = read("num g; proc main() { num x; x = call f(3); g = 1; x = call f(9); } proc f(num a) { give a + g; }")
        table = tables.analysed(program, ())
        self.assertEqual(table[1][0][0], ((0, 1), (3, 9)))
        self.assertEqual(table[1][0][3], ((6, -1, -3),))
        self.assertEqual(table[1][-1][0], ((0, 1), (3, 10)))
        # What comes home from either call keeps g less what is given apart, and x takes it.
        self.assertEqual(table[0][1][0], ((0, 1), (3, 10)))
        self.assertEqual(table[0][1][3], ((7, -1, -3),))

    def test_open_place(self):
        dozen = read("proc main() { num x; ask x from 1 to 6; x = 12 div x; }")
        self.assertEqual([tables.open_place(dozen, told(low, 6)) for low in (0, 1, 2)], [None, None, (0, 1)])
        self.assertEqual([tables.is_closed(HALF, told(low, 3)) for low in (0, 1)], [True, False])
        self.assertEqual(tables.open_place(HALF, tables.empty_table(HALF)), (0, 0))
        # Each place with nothing in its look but what never comes.
        for program in PROGRAMS + drawn_programs(81, 10, tame=True):
            table = tables.analysed(program, ())
            for key in places_of(program):
                is_reached = tables.coming(program, table, *key) is not None
                lesser = with_look(table, key, None)
                found = tables.open_place(program, lesser)
                self.assertIs(tables.is_closed(program, lesser), found is None)
                if table[key[0]][key[1]] is None:
                    self.assertIsNone(found)
                elif is_reached and found != key:
                    # What comes there may hang on its own look: a loop that is entered by itself alone.
                    self.assertIsNotNone(found)

    def test_one_look_made_lesser(self):
        drawn = random.Random(12)
        opened = 0
        for program in PROGRAMS + drawn_programs(83, 12, tame=True, procs=2):
            reference = Tables(program)
            if len(reference.places) > 30:
                continue
            table = tables.analysed(program, ())
            for key in drawn.sample(places_of(program), min(6, len(reference.places))):
                look = table[key[0]][key[1]]
                if look is None or look[0] == ():
                    continue
                at = drawn.randrange(len(look[0]))
                low, high = look[0][at]
                lesser = drawn.choice([(low, 4), (5 if high is None or high > 4 else low, high), (low, high)])
                if lesser[0] is not None and lesser[1] is not None and lesser[0] > lesser[1]:
                    continue
                made = with_look(table, key, (look[0][:at] + (lesser,) + look[0][at + 1:],) + look[1:])
                found = tables.open_place(program, made)
                self.assertEqual(found, reference.open_place(made))
                self.assertIs(tables.is_closed(program, made), found is None)
                opened += found is not None
        self.assertGreater(opened, 5)

    def test_closed_tables_with_more_in_them(self):
        for program in PROGRAMS:
            free = tuple(tuple(
                (((None, None),) * len(names), ((0, 1),) * len(names),
                 tuple(tuple(0 if i == j else None for j in range(len(names) + 1)) for i in range(len(names) + 1)), (),
                 (((None, None), (0, 1)),) * len(rows))
                for names, rows in (sight_at(program, proc, place) for place in range(graph_of(program, proc)[0])))
                for proc in range(len(program[1])))
            self.assertTrue(tables.is_closed(program, free))
            for state in states_of(program, (1, 2, 3), 30):
                self.assertTrue(tables.lies_in(program, free, state))
            less = tables.narrowed(program, free, places_of(program))
            self.assertTrue(tables.is_closed(program, less))


class Narrowing(unittest.TestCase):
    def test_narrowed(self):
        drawn = random.Random(9)
        changed = 0
        for program in PROGRAMS + drawn_programs(91, 15, tame=True) + drawn_programs(92, 15):
            places = places_of(program)
            table = tables.analysed(program, ())
            states = states_of(program, tuple(drawn.randint(-4, 9) for _ in range(6)), 60)
            for order in (places[:300], tuple(drawn.choice(places) for _ in range(30)), places[::-1][:300], ()):
                found = tables.narrowed(program, table, order)
                self.assertTrue(tables.is_closed(program, found))
                changed += found != table
                for proc, place in places:
                    self.assertTrue(look_within(sight_at(program, proc, place), found[proc][place], table[proc][place]))
                    if (proc, place) not in order:
                        self.assertEqual(found[proc][place], table[proc][place])
                for state in states:
                    self.assertTrue(tables.lies_in(program, found, state))
            self.assertEqual(found, table)
        self.assertGreater(changed, 5)

    def test_step_by_step(self):
        program = read("proc main() { num x; ask x from 0 to any; while (x < 7) { x = x + 5; } give x; }")
        self.assertEqual(tables.narrowed(program, tables.analysed(program, ()), ()), tables.analysed(program, ()))
        wide = told(0, 9)
        self.assertEqual(tables.narrowed(HALF, wide, ((0, 1),)), told(0, 3))
        self.assertEqual(tables.narrowed(HALF, wide, ((0, 2),))[0][1:3], (wide[0][1], (((0, 6),), ((0, 1),), ((0, 0), (6, 0)), (), ())))
        # Narrowed at the first one first, the second one is told more of.
        self.assertEqual(tables.narrowed(HALF, wide, ((0, 1), (0, 2)))[0][2], (((2, 6),), ((0, 1),), ((0, -2), (6, 0)), (), ()))

    def test_what_would_not_be_closed_stays(self):
        program = read("proc main() { num x; num y; num u; num v; ask u from any to any; ask v from any to any; x = u + v; y = 10 - x;"
                       " if (0 <= y and y <= 3) { x = x + 0; give x; } }")
        table = tables.analysed(program, ())
        came = table[0][6]
        # x and y by u and v: that y is from 0 to 3 tells nothing of x, as neither u nor v is told.
        self.assertEqual((came[0][:2], came[3]), (((None, None), (0, 3)), ((1, 0, -1, -1, 0), (0, 1, 1, 1, 10))))
        # What is wider by its parts, x + y is 10 and no more, tells more of x, once it is exchanged.
        wide = came[:3] + (((1, 1, 0, 0, 10),), ())
        made = (table[0][:6] + (wide,) + (None,) * (len(table[0]) - 7),)
        while not tables.is_closed(program, made):
            made = tables.looked(program, made, places_of(program))
        self.assertEqual((made[0][6], made[0][7][0][0]), (wide, (7, 10)))
        self.assertEqual(tables.coming(program, made, 0, 6), came)
        self.assertFalse(tables.is_closed(program, with_look(made, (0, 6), came)))
        for order in (((0, 6),), ((0, 6), (0, 6), (0, 3)), places_of(program)[:7]):
            self.assertEqual(tables.narrowed(program, made, order), made)
        # With the place behind it free there is nothing that would not be closed.
        free = (((None, None),) * 4, ((0, 1),) * 4, came[2][:0] + tuple(tuple(0 if i == j else None for j in range(5)) for i in range(5)), (), ())
        looser = with_look(with_look(made, (0, 7), free), (0, 9), (((None, None),), ((0, 1),), ((0, None), (None, 0)), (), ()))
        self.assertTrue(tables.is_closed(program, looser))
        self.assertEqual(tables.narrowed(program, looser, ((0, 6),)), with_look(looser, (0, 6), came))

    def test_not_closed(self):
        for order in ((), ((0, 0),)):
            refused(self, NotClosed, {}, tables.narrowed, HALF, told(1, 3), order)
            refused(self, NotClosed, {}, tables.narrowed, order=order, table=tables.empty_table(HALF), program=HALF)
        refused(self, InvalidOrder, {"index": 0}, tables.narrowed, HALF, told(1, 3), (0,))


class Lying(unittest.TestCase):
    program = read("num g; row 2 r; proc main() { num x; row 2 s; x = call f(4); } proc f(num a) { num b; give a; }")

    def test_first_and_others(self):
        table = tables.analysed(self.program, ())
        state = first_state(self.program)
        while True:
            self.assertTrue(tables.lies_in(self.program, table, state))
            if kind_of(self.program, state)[0] == "done":
                break
            state = moved(self.program, state, None)
        empty = tables.empty_table(self.program)
        self.assertFalse(tables.lies_in(self.program, empty, first_state(self.program)))

    def test_parts_that_do_not_lie(self):
        table = tables.analysed(self.program, ())
        right = (((0, 0, (0, (0, 0))), (1, 0, (4, 0))), (0, (0, 0)))
        self.assertTrue(tables.lies_in(self.program, table, right))
        ahead, last = right[0]
        for frames, shared in (
            ((ahead, (1, 0, (5, 0))), right[1]), ((ahead, (1, 0, (4, 1))), right[1]), ((ahead, last), (1, (0, 0))),
            ((ahead, last), (0, (0, 1))), (((0, 0, (1, (0, 0))), last), right[1]), (((0, 0, (0, (0, 7))), last), right[1]),
            ((ahead, (1, 1, (4, 0))), right[1]), ((ahead, (1, 2, (3,))), right[1]), ((ahead, last, ), (0, (-1, 0))),
        ):
            self.assertFalse(tables.lies_in(self.program, table, (frames, shared)))
        self.assertTrue(tables.lies_in(self.program, table, ((ahead, (1, 2, (4,))), right[1])))
        for key in ((0, 0), (1, 0)):
            self.assertFalse(tables.lies_in(self.program, with_look(table, key, None), right))

    def test_what_a_look_tells_of_the_callers_names_alone(self):
        # At the call x is g and up to 5 as its look tells; x alone is up to 5, whatever g has become.
        program = read("num g; proc main() { num x; call f(); } proc f() { }")
        free, some = (None, None), ((0, None), (None, 0))
        pair = ((free, free), ((0, 1), (0, 1)), ((0, None, None), (5, 0, None), (None, 0, 0)), (), ())
        table = ((pair, None, None), ((((None, None),), ((0, 1),), some, (), ()), None))
        frames = ((0, 0, (5,)), (1, 0, ()))
        self.assertTrue(tables.lies_in(program, table, (frames, (77,))))
        self.assertFalse(tables.lies_in(program, table, (((0, 0, (6,)), frames[1]), (77,))))
        # As the last frame it has to lie there with the globals.
        self.assertFalse(tables.lies_in(program, table, (((0, 0, (5,)),), (4,))))
        self.assertTrue(tables.lies_in(program, table, (((0, 0, (5,)),), (5,))))
        # A ring among the globals' bounds holds nothing of anybody; a stretch of a global tells nothing of x.
        ring = pair[:2] + (((0, -1, None), (0, 0, None), (None, None, 0)),) + pair[3:]
        self.assertFalse(tables.lies_in(program, with_look(table, (0, 0), ring), (frames, (0,))))
        away = (((3, 3), free),) + pair[1:]
        self.assertTrue(tables.lies_in(program, with_look(table, (0, 0), away), (frames, (0,))))
        # Equations of both names tell of x alone what follows for it.
        both = pair[:2] + (((0, None, None), (None, 0, None), (None, None, 0)), ((1, 0, 3), (0, 1, 4)), ())
        self.assertTrue(tables.lies_in(program, with_look(table, (0, 0), both), (((0, 0, (4,)), frames[1]), (0,))))
        self.assertFalse(tables.lies_in(program, with_look(table, (0, 0), both), (frames, (0,))))
        # It is not exchanged: of 2 g = x with g up to 1 nothing is told of x alone.
        loose = (((None, 1), free),) + pair[1:2] + (((0, None, None), (None, 0, None), (None, None, 0)), ((2, -1, 0),), ())
        self.assertTrue(tables.lies_in(program, with_look(table, (0, 0), loose), (((0, 0, (9,)), frames[1]), (0,))))

    def test_many_frames(self):
        again = read("num g; proc main() { num x; x = x + 1; g = g + 1; call main(); }")
        table = tables.analysed(again, ())
        for state in states_of(again, (), 300):
            self.assertTrue(tables.lies_in(again, table, state))
        state = states_of(again, (), 300)[-1]
        broken = state[0][:40] + ((0, 2, (2,)),) + state[0][41:]
        self.assertFalse(tables.lies_in(again, table, (broken, state[1])))


class Refusals(unittest.TestCase):
    table = tables.analysed(HALF, ())
    programs = [(((), None), InvalidProgram, {"place": (1,)})] + [(value, InvalidProgram, {"place": ()}) for value in (None, 0) + ODD]
    proc = given_wrongs(InvalidIndex, None, -1, 1, (), *ODD)
    place = given_wrongs(InvalidPlace, None, -1, 4, (), *ODD)
    order = index_wrongs(
        InvalidOrder, *[(value, None) for value in (None, 0, ((0, 0),) * 301) + ODD], ((0, 0), 0), (((0, 0), (0, 4)), 1), (((1, 0),), 0),
        (((0, 0), (0, -1), None), 1), (((0, True),), 0), (((0, 0), [0, 0]), 1), (((0, 0, 0),), 0), (((0, 0), UNASKED), 1), (((UNASKED, 0),), 0))
    state = given_wrongs(InvalidState, None, 0, (), (((0, 0, ()),), ()), (((0, 0, (True,)),), ()), *ODD)

    def tables_refused(self):
        right = self.table
        row = right[0]
        none = [(value, None) for value in (None, 0, (), row, right + right, (row[:3],), (row + (None,),), [row], (list(row),), (None,)) + ODD]
        looks = [0, (), row[1][:4], row[1] + ((),), list(row[1]), (((0, 3), (0, 3)),) + row[1][1:], (((),),) + row[1][1:],
                 row[1][:1] + (((),),) + row[1][2:], row[1][:2] + (None,) + row[1][3:], row[1][:3] + (None, ()), row[1][:4] + (((0, 0), (0, 0)),),
                 row[1][:4] + ((((0, 0), (0, 0)),),), row[1][:2] + (((0, 0), (3, 1)),) + row[1][3:], row[1][:3] + (((2, 2),), ()),
                 (((3, 0),),) + row[1][1:], row[1][:1] + (((4, 4),),) + row[1][2:], UNASKED, (UNASKED,) * 5, True, "look"]
        one = [((row[:2] + (look,) + row[3:],), (0, 2)) for look in looks]
        both = [((row[:1] + (0, (), row[3]),), (0, 1))]
        return index_wrongs(InvalidTable, *none, *one, *both)

    def asked(self, names, **right):
        wrong = {"program": self.programs, "table": self.tables_refused(), "proc": self.proc, "place": self.place, "order": self.order,
                 "state": self.state}
        for name in names.split():
            asked_in_order(self, getattr(tables, name), right, {key: wrong[key] for key in right})

    def test_refusals(self):
        self.asked("empty_table", program=HALF)
        self.asked("coming looked_at", program=HALF, table=self.table, proc=0, place=3)
        self.asked("looked narrowed", program=HALF, table=self.table, order=((0, 0), (0, 3), (0, 0)))
        self.asked("number_of open_place is_closed", program=HALF, table=self.table)
        self.asked("analysed changes_of", program=HALF, order=((0, 2),))
        self.asked("lies_in", program=HALF, table=self.table, state=(((0, 0, (0,)),), ()))
        self.assertEqual(tables.looked(HALF, self.table, ((0, 1),) * 300), self.table)

    def test_the_first_look_that_is_none(self):
        program = read("num g; proc main() { } proc f(num a) { }")
        right = tables.analysed(program, ())
        for at, key in enumerate(places_of(program)):
            wrong = right
            for later in places_of(program)[at:]:
                wrong = with_look(wrong, later, ())
            refused(self, InvalidTable, {"index": key}, tables.number_of, program, wrong)
        # At an END the sight is another one.
        names = ((("g", NUM),), ())
        look = (((None, None),), ((0, 1),), ((0, None), (None, 0)), (), ())
        self.assertEqual(sight_at(program, 0, 0), names)
        tables.number_of(program, with_look(right, (0, 0), look))
        refused(self, InvalidTable, {"index": (0, 1)}, tables.number_of, program, with_look(right, (0, 1), look))

    def test_looks_that_hold_nothing_are_looks(self):
        ring = (((0, 3),), ((0, 1),), ((0, -1), (0, 0)), (), ())
        table = with_look(self.table, (0, 1), ring)
        self.assertEqual(tables.open_place(HALF, table), (0, 1))
        self.assertIsNone(tables.coming(HALF, table, 0, 2))
        odd = (((0, 3),), ((0, 1),), ((0, None), (None, 0)), ((2, 1),), ())
        self.assertFalse(tables.lies_in(HALF, with_look(self.table, (0, 1), odd), (((0, 1, (0,)),), ())))


if __name__ == "__main__":
    unittest.main()
