"""[G7] to [G9]: certificates, which are told first, and that the checker accepts each of them."""

import functools
import unittest

from soundlooks import alarms, certificates, console, looks, tables
from soundlooks.checker import accepts
from soundlooks.errors import InvalidIndex, InvalidLook, InvalidNumber, InvalidPlace, InvalidProgram, InvalidTable
from soundlooks.machine import kind_of
from soundlooks.text import read
from tests.drawing import drawn_programs
from tests.refusing import ODD, UNASKED, asked_in_order, given_wrongs, index_wrongs
from tests.test_alarms import MIXED, free_table
from tests.test_looks import LookDrawer
from tests.test_search import FINITE, OPEN, SQUARES
from tests.test_tables import HALF, NOUGHT, PROGRAMS, places_of, sight_at, told, with_look

# What the widened table does not tell, but the narrowed one does: behind the loop i is just 10.
NARROW = read("proc main() { num i; while (i < 10) { i = i + 3; } i = 1 div (2 * i - 30); }")
# x is - 6 or - 3 at the last place of SQUARES, and y 0 or 1.
ENDS = (((-6, -3), (0, 1)), ((0, 1), (0, 1)), ((0, None, None), (None, 0, None), (None, None, 0)), (), ())


@functools.cache
def both_tables(program):
    """T and N as the interface tells them."""
    table = tables.analysed(program, ())
    narrow = table
    for key in places_of(program):
        narrow = tables.narrowed(program, narrow, (key,))
    return table, narrow


def whole_papers(program, most):
    return [("table", table) for table in both_tables(program)] + [("states", most)]


def first_accepted(claim, program, most):
    for paper in whole_papers(program, most):
        if accepts(claim, paper):
            return claim, paper
    return None


def expected_look(program, proc, place, look, most):
    claim = ("stays", program, proc, place, look)
    run = alarms.leaving_run(program, proc, place, look, most)
    led = None if run is None else (("leaves",) + claim[1:], run)
    return first_accepted(claim, program, most) or led


def expected_faults(claim, program, key, most):
    led = None
    for state, inputs, steps in alarms.found(program, most):
        word, what = kind_of(program, state)
        if word == "fault" and key in (None, state[0][-1][:2]):
            led = (("wrong", program) + state[0][-1][:2] + (what,), (inputs, steps))
            break
    return first_accepted(claim, program, most) or led


class Certificates(unittest.TestCase):
    def setUp(self):
        self.kinds = set()

    def asked(self, found, expected):
        self.assertEqual(found, expected)
        if found is None:
            self.kinds.add(None)
            return
        self.assertIs(type(found), tuple)
        self.assertIs(accepts(*found), True)
        claim, paper = found
        self.kinds.add((claim[0], paper[0] if claim[0] in ("stays", "safe", "never wrong") else "run"))

    def test_tables(self):
        drawer = LookDrawer(801)
        for program in FINITE + PROGRAMS + [MIXED] + drawn_programs(802, 20):
            table = tables.analysed(program, ())
            for made in (table, tables.empty_table(program), free_table(program)) + tuple(
                    with_look(table, key, drawer.look(sight_at(program, *key))) for key in places_of(program)[:6]):
                found = certificates.certify_table(program, made)
                self.assertIs(accepts(*found), True)
                if tables.is_closed(program, made):
                    self.assertEqual(found, (("closed", program, made), ()))
                else:
                    self.assertEqual(found, (("not closed", program, made), tables.open_place(program, made)))
                    self.assertEqual([key for key in places_of(program) if accepts(found[0], key)][0], found[1])

    def test_looks(self):
        drawer = LookDrawer(803)
        for program in FINITE + OPEN + PROGRAMS + [MIXED, NARROW] + drawn_programs(804, 12, tame=True):
            narrow = console.best_table(program)
            for proc, place in drawer.random.sample(places_of(program), min(4, len(places_of(program)))):
                sight = sight_at(program, proc, place)
                for look in (None, looks.free_look(sight), drawer.look(sight), narrow[proc][place]):
                    most = drawer.random.choice((1, 9, 60))
                    self.asked(certificates.certify_look(program, proc, place, look, most), expected_look(program, proc, place, look, most))
        self.asked(certificates.certify_look(SQUARES, 0, 3, ENDS, 12), expected_look(SQUARES, 0, 3, ENDS, 12))
        self.assertEqual(self.kinds, {("stays", "table"), ("stays", "states"), ("leaves", "run"), None})

    def test_places(self):
        for program in FINITE + OPEN + PROGRAMS + [MIXED, NARROW] + drawn_programs(805, 15):
            for proc, place in places_of(program):
                most = (1, 12, 60)[place % 3]
                claim = ("safe", program, proc, place)
                self.asked(certificates.certify_place(program, proc, place, most), expected_faults(claim, program, (proc, place), most))
        self.assertEqual(self.kinds, {("safe", "table"), ("safe", "states"), ("wrong", "run"), None})

    def test_programs(self):
        for program in FINITE + OPEN + PROGRAMS + [MIXED, NARROW] + drawn_programs(806, 40) + drawn_programs(807, 20, tame=True):
            for most in (1, 12, 80):
                self.asked(certificates.certify_program(program, most), expected_faults(("never wrong", program), program, None, most))
        self.assertEqual(self.kinds, {("never wrong", "table"), ("never wrong", "states"), ("wrong", "run"), None})

    def test_what_is_told_first(self):
        table, narrow, states = whole_papers(NARROW, 300)
        self.assertNotEqual(table, narrow)
        # All three would do: the table as it was analysed comes first.
        free = free_table(NARROW)[0][3]
        self.assertEqual(certificates.certify_look(NARROW, 0, 3, free, 300), (("stays", NARROW, 0, 3, free), table))
        self.assertTrue(accepts(("stays", NARROW, 0, 3, free), narrow) and accepts(("stays", NARROW, 0, 3, free), states))
        # Only the narrowed one tells that i is below 20 at the division; the states would tell it, too.
        claim = ("never wrong", NARROW)
        self.assertEqual([accepts(claim, paper) for paper in (table, narrow, states)], [False, True, True])
        self.assertEqual(certificates.certify_program(NARROW, 300), (claim, narrow))
        self.assertEqual(certificates.certify_place(NARROW, 0, 2, 1), (("safe", NARROW, 0, 2), narrow))
        look = narrow[1][0][2]
        self.assertEqual(certificates.certify_look(NARROW, 0, 2, look, 1), (("stays", NARROW, 0, 2, look), narrow))
        # i is 12 behind the loop; by looks alone it is 10, 11 or 12, all leaving 0 by 3.
        just = (((12, 12),), ((12, 0),), ((0, -12), (12, 0)), ((1, 12),), ())
        self.assertEqual(certificates.certify_look(NARROW, 0, 2, just, 300)[0][0], "stays")
        self.assertEqual(certificates.certify_look(NARROW, 0, 2, NOUGHT, 300), (("leaves", NARROW, 0, 2, NOUGHT), ((), 9)))

    def test_none_where_none_will_do(self):
        self.assertIsNone(certificates.certify_program(SQUARES, 11))
        self.assertIsNone(certificates.certify_place(SQUARES, 0, 2, 11))
        self.assertIsNone(certificates.certify_program(OPEN[3], 6))
        self.assertEqual(certificates.certify_program(OPEN[3], 300), (("wrong", OPEN[3], 0, 2, "check"), ((77,), 2)))
        self.assertIsNone(certificates.certify_look(SQUARES, 0, 3, ENDS, 11))
        self.assertEqual(certificates.certify_look(SQUARES, 0, 3, ENDS, 12), (("stays", SQUARES, 0, 3, ENDS), ("states", 12)))
        less = (((-6, -4),) + ENDS[0][1:],) + ENDS[1:]
        self.assertIsNone(certificates.certify_look(SQUARES, 0, 3, less, 9))
        self.assertEqual(certificates.certify_look(SQUARES, 0, 3, less, 10), (("leaves", SQUARES, 0, 3, less), ((0,), 3)))

    def test_the_parts_are_the_arguments(self):
        look = told(0, 3)[0][1]
        claim, _ = certificates.certify_look(HALF, 0, 1, look, 5)
        self.assertIs(claim[1], HALF)
        self.assertIs(claim[4], look)
        table = told(0, 3)
        self.assertIs(certificates.certify_table(HALF, table)[0][2], table)

    def test_more_places_than_an_order_may_have(self):
        atom = ("<", ("name", "x"), ("number", 5))
        condition = atom
        for _ in range(6):
            condition = ("and", condition, condition)
        up = ("set", "x", ("+", ("name", "x"), ("number", 1)))
        wide = ((), (("main", (), (("x", ("num",)),), (("while", condition, (up,)),) + (("if", condition, (), ()),) * 4 + (("check", ("==", ("name", "x"), ("number", 5))),)),))
        self.assertGreater(len(places_of(wide)), 300)
        table = console.best_table(wide)
        expected = tables.analysed(wide, ())
        for key in places_of(wide):
            expected = tables.narrowed(wide, expected, (key,))
        self.assertEqual(table, expected)
        claim, paper = certificates.certify_program(wide, 1)
        self.assertEqual((claim, paper), expected_faults(("never wrong", wide), wide, None, 1))


class Refusals(unittest.TestCase):
    table = tables.analysed(HALF, ())
    programs = [(((), None), InvalidProgram, {"place": (1,)}), (None, InvalidProgram, {"place": ()}), (UNASKED, InvalidProgram, {"place": ()})]
    proc = given_wrongs(InvalidIndex, None, -1, 1, (), *ODD)
    place = given_wrongs(InvalidPlace, None, -1, 4, (), *ODD)
    look = given_wrongs(InvalidLook, 0, (), table[0][1][:4], list(table[0][1]), (UNASKED,) * 5, *ODD)
    most = given_wrongs(InvalidNumber, None, 0, -1, 301, (), *ODD)
    tables = index_wrongs(InvalidTable, *[(value, None) for value in (None, 0, (), (table[0][:3],), (list(table[0]),)) + ODD], ((table[0][:2] + (0, ()),), (0, 2)))

    def asked(self, names, **right):
        wrong = {"program": self.programs, "proc": self.proc, "place": self.place, "look": self.look, "most": self.most, "table": self.tables}
        for name in names.split():
            asked_in_order(self, getattr(certificates, name), right, {key: wrong[key] for key in right})

    def test_refusals(self):
        self.asked("certify_table", program=HALF, table=self.table)
        self.asked("certify_look", program=HALF, proc=0, place=2, look=None, most=300)
        self.asked("certify_place", program=HALF, proc=0, place=2, most=1)
        self.asked("certify_program", program=HALF, most=7)


if __name__ == "__main__":
    unittest.main()
