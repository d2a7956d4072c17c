"""[B5]: the plain meaning, beside the machine's runs and by hand."""

import unittest

from soundlooks.errors import InvalidInputs, InvalidNumber, InvalidProgram
from soundlooks.machine import run
from soundlooks.plain import plain_run
from tests.drawing import Drawer
from tests.helper import NUM, ONE
from tests.refusing import asked_in_order
from tests.test_machine import Refusals as MachineRefusals

ZERO = ("number", 0)
G, A = ("name", "g"), ("name", "a")


def global_of(*statements, others=()):
    """A program of a global num g and word w of 3 with these statements."""
    return ((("g", NUM), ("w", ("word", 3))), (("main", (), (("r", ("row", 2)),), statements),) + others)


class ByHand(unittest.TestCase):
    def test_each_kind_of_step_counts_once(self):
        f = ("f", (("a", NUM),), (), (("set", "g", A),))
        for statements, steps, shared in (
            ((), 1, (0, 0)), ((("set", "g", ONE),), 2, (1, 0)), ((("put", "r", ONE, ONE),), 2, (0, 0)),
            ((("give", ONE),), 1, (0, 0)), ((("give", ONE), ("set", "g", ONE)), 1, (0, 0)), ((("ask", "w", None, None),), 2, (0, 1)),
            ((("call", None, "f", (ONE,)),), 5, (1, 0)), ((("check", ("<", ZERO, ONE)),), 2, (0, 0)),
            ((("check", ("and", ("<", ZERO, ONE), ("<=", ONE, ONE))),), 3, (0, 0)),
            ((("check", ("or", ("<", ZERO, ONE), ("<=", ONE, ONE))),), 2, (0, 0)),
            ((("if", ("not", ("<", ZERO, ONE)), (("set", "g", ONE),), ()),), 2, (0, 0)),
            ((("while", ("<", G, ("number", 3)), (("set", "g", ("+", G, ONE)),)),), 8, (3, 0)),
        ):
            program = global_of(*statements, others=(f,))
            used = 1 if statements and statements[0][0] == "ask" else 0
            number = 1 if statements and statements[0][0] == "give" else 0
            self.assertEqual(plain_run(program, (9,), 300), ("done", number, steps, used, shared))
            self.assertEqual(plain_run(program, (9,), steps)[0], "done")
            self.assertEqual(plain_run(program, (9,), steps - 1)[:3], ("goes", None, steps - 1))

    def test_ends(self):
        self.assertEqual(plain_run(global_of(("check", ("<", ONE, ZERO))), (), 300), ("fault", "check", 1, 0, (0, 0)))
        self.assertEqual(plain_run(global_of(("check", ("<", ONE, ZERO))), (), 1), ("fault", "check", 1, 0, (0, 0)))
        self.assertEqual(plain_run(global_of(("check", ("<", ONE, ZERO))), (), 0), ("goes", None, 0, 0, (0, 0)))
        self.assertEqual(plain_run(global_of(("set", "w", ("number", 9)), ("give", ("div", ONE, G))), (), 1), ("fault", "zero", 1, 0, (0, 1)))
        self.assertEqual(plain_run(global_of(("put", "r", ("number", 2), ONE)), (), 0), ("fault", "cell", 0, 0, (0, 0)))
        self.assertEqual(plain_run(global_of(("ask", "g", 1, 2)), (3,), 0), ("waits", (1, 2), 0, 0, (0, 0)))
        self.assertEqual(plain_run(global_of(("ask", "g", 1, 2)), (2,), 0), ("goes", None, 0, 0, (0, 0)))
        square = ("set", "g", ("*", G, G))
        self.assertEqual(plain_run(global_of(("ask", "g", None, None), square), (2 ** 650,), 300), ("great", None, 1, 1, (2 ** 650, 0)))
        self.assertEqual(plain_run(global_of(("ask", "g", None, None), square), (1 - 2 ** 650,), 300)[:2], ("done", 0))

    def test_calls(self):
        f = ("f", (("a", ("word", 2)),), (("b", NUM),), (
            ("while", ("<", ZERO, A), (("if", ("==", A, ONE), (("give", ("number", 13)),), ()), ("call", "a", "f", (("-", A, ONE),)))),))
        program = global_of(("call", "w", "f", (("number", 7),)), others=(f,))
        self.assertEqual(plain_run(program, (), 300), run(program, (), 300)[:4] + ((0, 5),))
        deep = ((), (("main", (), (), (("call", None, "main", ()),)),))
        self.assertEqual(plain_run(deep, (), 300), ("goes", None, 300, 0, ()))


class BesideTheMachine(unittest.TestCase):
    def asked(self, drawer, many):
        found = set()
        for _ in range(many):
            program, given = drawer.program(), drawer.inputs(8)
            for most in (drawer.choose(0, 1, 2, 3, 5, 9, 17), drawer.choose(40, 120, 300)):
                told = run(program, given, most)
                self.assertEqual(plain_run(program, given, most), told[:4] + (told[4][1],), (program, given, most))
                found.add((told[0], told[1] if told[0] == "fault" else None))
                found.add(("frames", min(len(told[4][0]), 4)))
        return found

    def test_drawn_programs(self):
        found = self.asked(Drawer(1), 700) | self.asked(Drawer(2, deep=6, statements=10), 300)
        found |= self.asked(Drawer(3, procs=1, kinds=("num",)), 200)
        for told in (("done", None), ("fault", "zero"), ("fault", "cell"), ("fault", "check"), ("waits", None), ("goes", None)):
            self.assertIn(told, found)
        self.assertIn(("frames", 4), found)


class Arguments(unittest.TestCase):
    def test_refusals(self):
        program = global_of(("ask", "g", None, None))
        errors = [error for _, error, _ in MachineRefusals.programs + MachineRefusals.inputs + MachineRefusals.mosts]
        self.assertEqual(set(errors), {InvalidProgram, InvalidInputs, InvalidNumber})
        asked_in_order(self, plain_run, {"program": program, "inputs": (3, 3), "most": 300}, {
            "program": MachineRefusals.programs, "inputs": MachineRefusals.inputs, "most": MachineRefusals.mosts})
        plain_run(program, (0,) * 300, 0)


if __name__ == "__main__":
    unittest.main()
