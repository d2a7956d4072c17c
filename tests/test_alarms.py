"""[G1], [G2]: the faults that looks tell at places, and the alarms of tables."""

import random
import unittest

from soundlooks import alarms, looks, tables
from soundlooks.errors import InvalidFault, InvalidIndex, InvalidLook, InvalidNumber, InvalidPlace, InvalidProgram, InvalidTable
from soundlooks.graphs import graph_of
from soundlooks.machine import kind_of, run
from soundlooks.text import read
from tests import reference
from tests.drawing import drawn_programs
from tests.refusing import ODD, UNASKED, asked_in_order, given_wrongs, index_wrongs
from tests.test_looks import LookDrawer, is_held
from tests.test_tables import HALF, PROGRAMS, places_of, sight_at, with_look

# A place for each kind of step, with what it may bear told in its expressions.
MIXED = read(
    "num g; row 3 r; word 4 w; proc main() { num x; num y; row 2 s;"
    " ask x from -5 to 5;"                                # 0
    " ask y from -1 to 4;"                                # 1
    " g = 6 div y;"                                       # 2
    " g = r[y];"                                          # 3
    " r[y] = 1;"                                          # 4
    " r[0] = s[x] mod y;"                                 # 5
    " if (x div y < r[x]) { g = 1; }"                     # 6, 7
    " while (not [x == y or s[y] <= 2 mod x]) { x = y; }"  # 8, 9, 10
    " check (x < y);"                                     # 11, 12
    " call f(1 div y, r[x]);"                             # 13
    " x = call f(2, s[1]);"                               # 14
    " give r[g] div x; }"                                 # 15; 16, 17
    " proc f(num a, num b) { give a div (b - b + 1); }"   # 0; 1, 2
)


def told_faults(program, proc, place, look):
    """[G1] word by word."""
    count, edges, failing = graph_of(program, proc)
    sight = sight_at(program, proc, place)
    look = looks.exchanged(sight, look)
    if look is None or place == count - 1:
        return ()
    if place in failing:
        return ("check",)
    step = [edge[1] for edge in edges if edge[0] == place][0]
    asked = {"set": step[2:], "put": step[2:], "guard": step[2:], "give": step[1:], "ask": ()}.get(step[0])
    if step[0] == "call":
        asked = step[3]
    if step[0] == "put":
        asked += (("cell", step[1], step[2]),)
    borne = {fault for expression in asked for fault in reference.faults(sight, look, expression)}
    return tuple(fault for fault in ("zero", "cell") if fault in borne)


def free_table(program):
    return tuple(tuple(looks.free_look(sight_at(program, proc, place)) for place in range(graph_of(program, proc)[0]))
                 for proc in range(len(program[1])))


class Faults(unittest.TestCase):
    def test_each_kind_of_step_in_wide_looks(self):
        table = free_table(MIXED)
        both = ("zero", "cell")
        expected = [(), (), ("zero",), ("cell",), ("cell",), both, both, (), (), both, (), (), ("check",), both, (), both, (), ()]
        self.assertEqual([alarms.faults_at(MIXED, 0, place, table[0][place]) for place in range(18)], expected)
        self.assertEqual([alarms.faults_at(MIXED, 1, place, table[1][place]) for place in range(3)], [("zero",), (), ()])
        told = tuple((0, place, fault) for place, faults in enumerate(expected) for fault in faults) + ((1, 0, "zero"),)
        self.assertEqual(alarms.alarms(MIXED, table), told)

    def test_in_the_table_that_is_analysed(self):
        table = tables.analysed(MIXED, ())
        told = alarms.alarms(MIXED, table)
        # The worth of b - b is not told by its form: it has no names.
        self.assertEqual(told[-1], (1, 0, "zero"))
        self.assertIn((0, 4, "cell"), told)
        # At 5 neither s[x] nor y, which may be 0, is safe; the index 0 of r is.
        self.assertEqual([alarm for alarm in told if alarm[1] == 5], [(0, 5, "zero"), (0, 5, "cell")])
        self.assertEqual(told, tuple(sorted(told, key=lambda alarm: (alarm[0], alarm[1], ["zero", "cell", "check"].index(alarm[2])))))
        self.assertEqual(told, tuple((proc, place, fault) for proc, place in places_of(MIXED)
                                     for fault in alarms.faults_at(MIXED, proc, place, table[proc][place])))

    def test_looks_of_one_value(self):
        program = read("row 2 r; proc main() { num x; x = r[x] div x; r[x] = x mod x; give x div r[x]; }")
        sight = looks.sight_of(program, 0)

        def told(place, x, low, high):
            look = (((x, x),), ((x, 0),), ((0, -x), (x, 0)), ((1, x),), (((low, high), (0, 1)),))
            self.assertTrue(looks.is_look(sight, look))
            return alarms.faults_at(program, 0, place, look)

        self.assertEqual([told(0, x, 0, 5) for x in (-1, 0, 1, 2)], [("cell",), ("zero",), (), ("cell",)])
        self.assertEqual([told(1, x, 0, 5) for x in (-1, 0, 1, 2)], [("cell",), ("zero",), (), ("cell",)])
        self.assertEqual([told(2, x, 1, 5) for x in (-1, 0, 1, 2)], [("cell",), (), (), ("cell",)])
        self.assertEqual([told(2, x, -1, 5) for x in (-1, 0, 1, 2)], [("cell",), ("zero",), ("zero",), ("cell",)])

    def test_nothing_is_told_where_nothing_is_held(self):
        program = read("proc main() { num x; x = 1 div x; check (x < 0); }")
        sight = looks.sight_of(program, 0)
        ring = (((0, 9),), ((0, 1),), ((0, -1), (0, 0)), (), ())
        apart = (((0, 9),), ((20, 0),), ((0, None), (None, 0)), (), ())
        # By itself x may be 0; two rounds of exchange find that there is none.
        odd = (((0, 1),), ((0, 1),), ((0, None), (None, 0)), ((2, 1),), ())
        for look in (None, ring, apart, odd):
            self.assertTrue(looks.is_look(sight, look))
            for place in range(5):
                self.assertEqual(alarms.faults_at(program, 0, place, look), ())
        right = (((0, 9),), ((0, 1),), ((0, None), (None, 0)), (), ())
        self.assertEqual([alarms.faults_at(program, 0, place, right) for place in range(5)], [("zero",), (), ("check",), (), ()])

    def test_the_look_is_exchanged_first(self):
        program = read("proc main() { num x; num y; x = 1 div x; }")
        free = ((None, None), (None, None))
        told = ((0, None, None), (None, 0, None), (None, None, 0))
        self.assertEqual(alarms.faults_at(program, 0, 0, (free, ((0, 1), (0, 1)), told, (), ())), ("zero",))
        # x = 2 y, and y is 4: x is 8.
        self.assertEqual(alarms.faults_at(program, 0, 0, (((None, None), (4, 4)), ((0, 1), (0, 1)), told, ((1, -2, 0),), ())), ())
        # x leaves 1 by 2; x is from 1 on by the differences.
        self.assertEqual(alarms.faults_at(program, 0, 0, (free, ((1, 2), (0, 1)), told, (), ())), ())
        told = ((0, -1, None), (None, 0, None), (None, None, 0))
        self.assertEqual(alarms.faults_at(program, 0, 0, (free, ((0, 1), (0, 1)), told, (), ())), ())

    def test_a_put_of_the_deepest_index(self):
        index = ("name", "x")
        for _ in range(7):
            index = ("minus", index)
        program = ((), (("main", (), (("x", ("num",)), ("r", ("row", 2))), (("put", "r", index, ("number", 1)),)),))
        sight = looks.sight_of(program, 0)
        self.assertEqual(alarms.faults_at(program, 0, 0, looks.free_look(sight)), ("cell",))
        at = (((-1, 0),), ((0, 1),), ((0, 1), (0, 0)), (), (((0, 0), (0, 0)),))
        self.assertEqual(alarms.faults_at(program, 0, 0, at), ())

    def test_drawn_looks(self):
        drawer = LookDrawer(501)
        found = set()
        for program in drawn_programs(502, 120) + PROGRAMS:
            for proc, place in places_of(program):
                look = drawer.look(sight_at(program, proc, place))
                told = alarms.faults_at(program, proc, place, look)
                self.assertEqual(told, told_faults(program, proc, place, look), (program, proc, place, look))
                found.add(told)
        self.assertEqual(found, {(), ("zero",), ("cell",), ("zero", "cell"), ("check",)})

    def test_the_fault_of_each_state_that_lies_in_a_look_is_told(self):
        drawer = LookDrawer(503)
        many = 0
        for program in drawn_programs(504, 150):
            count = graph_of(program, 0)[0]
            pairs = program[0] + program[1][0][2]
            for place in range(count - 1):
                sight = sight_at(program, 0, place)
                look = drawer.look(sight)
                numbers, cells = drawer.values(sight, look)
                told = {**dict(zip([name for name, _ in sight[0]], numbers)), **dict(zip([name for name, _ in sight[1]], cells))}
                values = tuple(told[name] % 2 ** kind[1] if kind[0] == "word" else told[name] for name, kind in pairs)
                numbers = tuple(values[[name for name, _ in pairs].index(name)] for name, _ in sight[0])
                if not is_held(look, numbers, cells):
                    continue
                shared = len(program[0])
                word, what = kind_of(program, (((0, place, values[shared:]),), values[:shared]))
                if word == "fault":
                    many += 1
                    self.assertIn(what, alarms.faults_at(program, 0, place, look))
        self.assertGreater(many, 25)


class Alarms(unittest.TestCase):
    def test_tables_that_are_not_closed(self):
        for program in PROGRAMS:
            self.assertEqual(alarms.alarms(program, tables.empty_table(program)), ())
        self.assertEqual(alarms.alarms(HALF, free_table(HALF)), ((0, 1, "zero"),))
        lesser = with_look(tables.analysed(HALF, ()), (0, 1), (((1, 3),), ((0, 1),), ((0, -1), (3, 0)), (), ()))
        self.assertFalse(tables.is_closed(HALF, lesser))
        self.assertEqual(alarms.alarms(HALF, lesser), ())

    def test_runs_bear_alarms_alone(self):
        drawn = random.Random(505)
        borne, safe = set(), 0
        for program in PROGRAMS + [MIXED] + drawn_programs(506, 40) + drawn_programs(507, 40, tame=True):
            places = places_of(program)
            order = tuple(drawn.choice(places) for _ in range(20))
            analysed = [tables.analysed(program, ()), tables.analysed(program, order), free_table(program)]
            analysed.append(tables.narrowed(program, analysed[0], places[:300]))
            analysed.append(tables.narrowed(program, analysed[1], order))
            told = [alarms.alarms(program, table) for table in analysed]
            self.assertTrue(set(told[3]) <= set(told[0]) <= set(told[2]))
            safe += () in told
            for _ in range(12):
                inputs = tuple(drawn.choice((0, 1, 2, 3, -1, 7, 30)) for _ in range(6))
                word, what, _, _, state = run(program, inputs, 200)
                if word == "fault":
                    proc, place, _ = state[0][-1]
                    borne.add(what)
                    for one in told:
                        self.assertIn((proc, place, what), one)
        self.assertEqual(borne, {"zero", "cell", "check"})
        self.assertGreater(safe, 10)


class Refusals(unittest.TestCase):
    table = tables.analysed(HALF, ())
    programs = [(((), None), InvalidProgram, {"place": (1,)}), (None, InvalidProgram, {"place": ()}), (UNASKED, InvalidProgram, {"place": ()})]
    proc = given_wrongs(InvalidIndex, None, -1, 1, (), *ODD)
    place = given_wrongs(InvalidPlace, None, -1, 4, (), *ODD)
    look = given_wrongs(InvalidLook, 0, (), table[0][1][:4], table[0][1] + ((),), list(table[0][1]), (UNASKED,) * 5,
                        (((0, 3),), ((0, 1),), ((0, 0), (3, 0)), (), (((0, 0), (0, 0)),)), *ODD)
    fault = given_wrongs(InvalidFault, None, 0, (), "great", "Zero", "zero ", ("zero",), b"zero", *ODD)
    most = given_wrongs(InvalidNumber, None, 0, -1, 301, (), (5,), *ODD)
    low = given_wrongs(InvalidNumber, (), (0,), *ODD)
    high = given_wrongs(InvalidNumber, (), 1, -10 ** 300, *ODD)
    tables = index_wrongs(
        InvalidTable, *[(value, None) for value in (None, 0, (), table + table, (table[0][:3],), (table[0] + (None,),), [table[0]], (list(table[0]),)) + ODD],
        ((table[0][:2] + (0, ()),), (0, 2)), ((table[0][:3] + (UNASKED,),), (0, 3)), ((((),) + table[0][1:],), (0, 0)))

    def asked(self, names, **right):
        wrong = {"program": self.programs, "proc": self.proc, "place": self.place, "look": self.look, "fault": self.fault, "most": self.most,
                 "low": self.low, "high": self.high, "table": self.tables}
        for name in names.split():
            asked_in_order(self, getattr(alarms, name), right, {key: wrong[key] for key in right})

    def test_refusals(self):
        look = self.table[0][1]
        self.asked("faults_at", program=HALF, proc=0, place=1, look=look)
        self.asked("alarms", program=HALF, table=self.table)
        self.asked("tried_numbers", program=HALF, low=2, high=9)
        self.asked("found is_whole_search", program=HALF, most=300)
        self.asked("bearing_run", program=HALF, proc=0, place=1, fault="zero", most=300)
        self.asked("leaving_run", program=HALF, proc=0, place=1, look=look, most=1)
        self.asked("answers", program=HALF, table=self.table, most=20)

    def test_bounds_that_are_let(self):
        for low, high in ((None, None), (None, -5), (7, None), (7, 7), (-10 ** 300, 10 ** 300)):
            self.assertIsInstance(alarms.tried_numbers(HALF, low, high), tuple)
        with self.assertRaises(InvalidNumber) as caught:
            alarms.tried_numbers(HALF, 8, 7)
        self.assertEqual(caught.exception.given, 7)
        with self.assertRaises(InvalidNumber) as caught:
            alarms.tried_numbers(HALF, "8", 7)
        self.assertEqual(caught.exception.given, "8")
        for fault in ("zero", "cell", "check"):
            alarms.bearing_run(HALF, 0, 3, fault, 9)
        self.assertIsNone(alarms.leaving_run(HALF, 0, 1, self.table[0][1], 300))
        self.assertEqual(alarms.leaving_run(HALF, 0, 3, None, 300), ((1,), 3))


if __name__ == "__main__":
    unittest.main()
