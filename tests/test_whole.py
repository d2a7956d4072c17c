"""[2], over whole programs: for every program and every order of looking."""

import random
import unittest

from soundlooks import alarms, certificates, console, tables
from soundlooks.checker import accepts
from soundlooks.machine import kind_of, run, states_of
from tests.drawing import Drawer
from tests.test_alarms import MIXED
from tests.test_search import FINITE, OPEN
from tests.test_tables import PROGRAMS, places_of

MOST = 60


class Whole(unittest.TestCase):
    def setUp(self):
        self.drawn = random.Random(1001)
        self.seen = set()

    def orders_of(self, program):
        places = places_of(program)
        yield ()
        yield tuple(self.drawn.choice(places) for _ in range(self.drawn.choice((4, 25, 120))))
        yield tuple(reversed(places))[:300]

    def runs_of(self, program, many):
        for _ in range(many):
            inputs = tuple(self.drawn.choice((0, 0, 1, 1, 2, 3, 5, 8, -1, -3, 40, 2 ** 70)) for _ in range(self.drawn.randint(0, 8)))
            yield states_of(program, inputs, 120)

    def asked(self, program, runs=5):
        lasts, states = [], []
        for told in self.runs_of(program, runs):
            lasts.append(told[-1])
            states += told
        states += [state for state, _, _ in alarms.found(program, MOST)]
        borne = {state[0][-1][:2] + (what,) for state in states for word, what in [kind_of(program, state)] if word == "fault"}
        self.seen |= {fault for _, _, fault in borne}
        # Each by itself, but no more than some, and the last ones of runs.
        states = sorted(set(states))
        states = self.drawn.sample(states, min(25, len(states))) + lasts
        for order in self.orders_of(program):
            changes, number = tables.changes_of(program, order)
            self.assertLessEqual(changes, number)
            table = tables.analysed(program, order)
            narrow = tables.narrowed(program, table, order[:40])
            for made in (table, narrow):
                self.assertIs(accepts(("closed", program, made), ()), True)
                for state in states:
                    self.assertIs(tables.lies_in(program, made, state), True)
                told = alarms.alarms(program, made)
                self.assertTrue(borne <= set(told))
                if told == ():
                    self.seen.add("never wrong")
                    self.assertIs(accepts(("never wrong", program), ("table", made)), True)
        self.asked_of_alarms(program)
        self.asked_of_certificates(program, borne)

    def asked_of_alarms(self, program):
        table = console.best_table(program)
        for proc, place, fault, reply in alarms.answers(program, table, MOST):
            self.seen.add(reply[0])
            if reply[0] == "run":
                _, inputs, steps = reply
                word, what, done, used, state = run(program, inputs, 300)
                self.assertEqual((word, what, done, used, state[0][-1][:2]), ("fault", fault, steps, len(inputs), (proc, place)))
                self.assertIs(accepts(("wrong", program, proc, place, fault), (inputs, steps)), True)
            elif reply == ("never",):
                for states in self.runs_of(program, 5):
                    self.assertFalse(states[-1][0][-1][:2] == (proc, place) and kind_of(program, states[-1]) == ("fault", fault))

    def asked_of_certificates(self, program, borne):
        told = certificates.certify_program(program, MOST)
        if told is not None:
            self.assertIs(accepts(*told), True)
            self.assertFalse(told[0][0] == "never wrong" and borne)
        table = console.best_table(program)
        for proc, place in self.drawn.sample(places_of(program), min(4, len(places_of(program)))):
            for found in (certificates.certify_place(program, proc, place, MOST), certificates.certify_look(program, proc, place, None, MOST),
                          certificates.certify_look(program, proc, place, table[proc][place], 1)):
                if found is not None:
                    self.assertIs(accepts(*found), True)
                    self.seen.add(found[0][0])

    def test_told_programs(self):
        for program in PROGRAMS + FINITE + OPEN + [MIXED]:
            self.asked(program)
        self.assertTrue({"zero", "cell", "check", "never wrong", "run", "never", "open", "stays", "leaves", "safe", "wrong"} <= self.seen)

    def test_drawn_programs(self):
        for drawer in (Drawer(1002), Drawer(1003, tame=True), Drawer(1004, tame=True, statements=4, wide=1), Drawer(1005, deep=4, wide=3),
                       Drawer(1006, kinds=("word", "row")), Drawer(1007, tame=True, kinds=("word",), procs=2)):
            for _ in range(15):
                self.asked(drawer.program(), 3)
        self.assertTrue({"zero", "cell", "check", "never wrong", "run", "stays", "leaves", "safe", "wrong"} <= self.seen)


if __name__ == "__main__":
    unittest.main()
