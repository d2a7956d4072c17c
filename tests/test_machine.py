"""[B2], [B4]: reckoning, what names take, states, what a state is and where it goes, and runs."""

import unittest

from soundlooks.errors import InvalidInputs, InvalidNumber, InvalidProgram, InvalidState, NotGoing
from soundlooks.graphs import graph_of
from soundlooks.machine import first_state, kind_of, moved, run, states_of
from tests.helper import I, LESS, NUM, ONE, program_of, refused
from tests.refusing import ODD, asked_in_order, given_wrongs, index_wrongs

GREAT = 2 ** 1300
GOES = ("goes", None)
ZERO = ("number", 0)
X, Y, W = ("name", "x"), ("name", "y"), ("name", "w")


def number(n):
    """An expression that comes to a number."""
    return ("number", n) if n >= 0 else ("minus", ("number", -n))


def main_of(*statements, shared=(), others=()):
    """A program of num x and y, word w of 3, row r of 3 and s of 1, with these statements."""
    pairs = (("x", NUM), ("y", NUM), ("w", ("word", 3)), ("r", ("row", 3)), ("s", ("row", 1)))
    return (shared, (("main", (), pairs, statements),) + others)


def state_of(x=0, y=0, w=0, r=(0, 0, 0), s=(0,), place=0, shared=()):
    """A state of main_of with one frame."""
    return (((0, place, (x, y, w, r, s)),), shared)


def worth(expression, **told):
    """What an expression comes to by the machine: a number, or the text of a fault."""
    program = main_of(("give", expression))
    state = state_of(**told)
    word, what = kind_of(program, state)
    if word == "fault":
        return what
    end = moved(program, state, None)
    assert kind_of(program, end)[0] == "done"
    return kind_of(program, end)[1]


class Reckoning(unittest.TestCase):
    def test_numbers_and_names(self):
        self.assertEqual(worth(number(7)), 7)
        self.assertEqual(worth(number(10 ** 40 - 1)), 10 ** 40 - 1)
        self.assertEqual(worth(X, x=-9), -9)
        self.assertEqual(worth(W, w=7), 7)
        self.assertEqual(worth(("minus", X), x=4), -4)
        self.assertEqual(worth(("+", X, Y), x=4, y=-6), -2)
        self.assertEqual(worth(("-", X, Y), x=4, y=-6), 10)
        self.assertEqual(worth(("*", X, Y), x=4, y=-6), -24)

    def test_div_and_mod(self):
        for x in range(-9, 10):
            for y in range(-4, 5):
                quotient, left = worth(("div", X, Y), x=x, y=y), worth(("mod", X, Y), x=x, y=y)
                if y == 0:
                    self.assertEqual((quotient, left), ("zero", "zero"))
                else:
                    self.assertEqual(quotient * y + left, x)
                    self.assertTrue(0 <= left < y or y < left <= 0)
        self.assertEqual([worth(("div", X, Y), x=a, y=b) for a in (7, -7) for b in (2, -2)], [3, -4, -4, 3])
        self.assertEqual([worth(("mod", X, Y), x=a, y=b) for a in (7, -7) for b in (2, -2)], [1, -1, 1, -1])

    def test_cells(self):
        r = (5, 6, 7)
        self.assertEqual([worth(("cell", "r", number(at)), r=r) for at in range(-1, 5)], ["cell", 5, 6, 7, "cell", "cell"])
        self.assertEqual([worth(("cell", "s", X), s=(9,), x=x) for x in (-1, 0, 1)], ["cell", 9, "cell"])
        within = ("cell", "r", ("cell", "r", X))
        self.assertEqual(worth(within, r=(2, 0, 8), x=0), 8)
        self.assertEqual(worth(within, r=(2, 3, 8), x=1), "cell")
        self.assertEqual(worth(within, r=(2, 3, 8), x=3), "cell")
        self.assertEqual(worth(("cell", "r", ("div", X, Y)), x=1), "zero")

    def test_the_first_fault_ends_all(self):
        zero, cell = ("div", ONE, ZERO), ("cell", "r", number(3))
        for sign in ("+", "-", "*", "div", "mod"):
            self.assertEqual(worth((sign, zero, cell)), "zero")
            self.assertEqual(worth((sign, cell, zero)), "cell")
            self.assertEqual(worth((sign, ONE, zero)), "zero")
            self.assertEqual(worth((sign, cell, ONE)), "cell")
        # A fault in the divisor comes ahead of the divisor's being 0.
        self.assertEqual(worth(("mod", ONE, ("*", ZERO, cell))), "cell")
        self.assertEqual(worth(("*", ZERO, zero)), "zero")
        self.assertEqual(worth(("minus", cell)), "cell")
        self.assertEqual(worth(("mod", ONE, ("mod", ONE, ONE))), "zero")
        self.assertEqual(worth(("cell", "r", ("+", zero, cell))), "zero")

    def test_nothing_is_bounded_on_the_way(self):
        huge = ("*", X, X)
        self.assertEqual(worth(("div", ("*", huge, huge), ("*", huge, huge)), x=10 ** 390), 1)
        self.assertEqual(worth(("-", ("*", huge, huge), ("*", huge, huge)), x=10 ** 390), 0)
        self.assertEqual(worth(("mod", huge, number(1000)), x=10 ** 390 + 7), 49)
        self.assertEqual(worth(("cell", "r", ("-", huge, huge)), x=10 ** 390, r=(3, 0, 0)), 3)
        self.assertEqual(worth(("cell", "r", huge), x=10 ** 390), "cell")


class Taking(unittest.TestCase):
    """What a word of 3 takes: 0 to 7."""

    def test_set_and_ask(self):
        for n in (-17, -9, -8, -1, 0, 7, 8, 9, 10 ** 39):
            self.assertEqual(moved(main_of(("set", "w", X)), state_of(x=n), None), state_of(x=n, w=n % 8, place=1))
            self.assertEqual(moved(main_of(("ask", "w", None, None)), state_of(), n), state_of(w=n % 8, place=1))
            self.assertEqual(moved(main_of(("set", "y", X)), state_of(x=n), None), state_of(x=n, y=n, place=1))
            self.assertEqual(moved(main_of(("ask", "y", None, None)), state_of(), n), state_of(y=n, place=1))

    def test_a_cell_takes_all(self):
        program = main_of(("put", "r", X, Y))
        self.assertEqual(moved(program, state_of(1, -900, r=(4, 5, 6)), None), state_of(1, -900, r=(4, -900, 6), place=1))
        self.assertEqual(moved(program, state_of(2, 8), None), state_of(2, 8, r=(0, 0, 8), place=1))

    def test_params_and_coming_home(self):
        called = ("f", (("a", ("word", 2)), ("b", NUM)), (("c", ("row", 2)),), (("give", ("+", ("name", "a"), ("name", "b"))),))
        for aim, taken in (("w", 6), ("x", -2), (None, None)):
            program = main_of(("call", aim, "f", (X, Y)), others=(called,))
            begun = moved(program, state_of(7, -5), None)
            self.assertEqual(begun, (state_of(7, -5)[0] + ((1, 0, (3, -5, (0, 0))),), ()))
            ended = moved(program, begun, None)
            self.assertEqual(ended, (state_of(7, -5)[0] + ((1, 2, (-2,)),), ()))
            self.assertEqual(kind_of(program, ended), GOES)
            told = {"w": taken} if aim == "w" else {}
            self.assertEqual(moved(program, ended, None), state_of(taken if aim == "x" else 7, -5, place=1, **told))

    def test_globals(self):
        shared = (("g", ("word", 4)), ("h", ("row", 2)))
        g = ("name", "g")
        program = (shared, (("main", (), (), (
            ("set", "g", number(-1)), ("put", "h", ONE, g), ("call", "g", "f", (("cell", "h", ONE),)))),
            ("f", (("a", NUM),), (), (("put", "h", ZERO, ("name", "a")), ("set", "g", ZERO), ("give", number(35))))))
        states = states_of(program, (), 300)
        self.assertEqual([state[1] for state in states], [
            (0, (0, 0)), (15, (0, 0)), (15, (0, 15)), (15, (0, 15)), (15, (15, 15)), (0, (15, 15)), (0, (15, 15)),
            (3, (15, 15)), (3, (15, 15))])
        self.assertEqual([len(state[0]) for state in states], [1, 1, 1, 2, 2, 2, 2, 1, 1])


class Kinds(unittest.TestCase):
    def test_first_state(self):
        shared = (("g", NUM), ("h", ("row", 2)), ("k", ("word", 5)))
        self.assertEqual(first_state(main_of(shared=shared)), state_of(shared=(0, (0, 0), 0)))
        self.assertEqual(first_state(((), (("p", (), (), ()),))), (((0, 0, ()),), ()))

    def test_done(self):
        program = main_of(("give", X))
        self.assertEqual(kind_of(program, (((0, 2, (-4,)),), ())), ("done", -4))
        self.assertEqual(moved(program, state_of(5), None), (((0, 2, (5,)),), ()))
        self.assertEqual(moved(program, state_of(5, place=1), None), (((0, 2, (0,)),), ()))
        refused(self, NotGoing, {}, moved, program, (((0, 2, (5,)),), ()), None)
        self.assertEqual(kind_of(program, (((0, 2, (GREAT ** 9,)),), ())), ("done", GREAT ** 9))

    def test_check(self):
        program = main_of(("check", ("<", X, Y)), ("check", ("!=", X, Y)))
        self.assertEqual(kind_of(program, state_of(1, 2)), GOES)
        self.assertEqual(moved(program, state_of(1, 2), None), state_of(1, 2, place=2))
        self.assertEqual(moved(program, state_of(2, 2), None), state_of(2, 2, place=1))
        self.assertEqual(kind_of(program, state_of(2, 2, place=1)), ("fault", "check"))
        self.assertEqual(moved(program, state_of(2, 2, place=2), None), state_of(2, 2, place=3))
        self.assertEqual(kind_of(program, state_of(place=3)), ("fault", "check"))
        for place in (1, 3):
            refused(self, NotGoing, {}, moved, program, state_of(place=place), None)

    def test_guards(self):
        for sign in ("<", "<=", "==", "!="):
            program = main_of(("if", (sign, X, Y), (("set", "x", ONE),), (("set", "y", ONE),)))
            for x, y in ((1, 2), (2, 2), (2, 1), (-3, 3), (GREAT, GREAT), (-GREAT, GREAT)):
                is_so = {"<": x < y, "<=": x <= y, "==": x == y, "!=": x != y}[sign]
                self.assertEqual(moved(program, state_of(x, y), None), state_of(x, y, place=1 if is_so else 2))

    def test_faults_of_steps(self):
        zero, cell = ("div", ONE, ZERO), ("cell", "r", number(3))
        called = ("f", (("a", NUM), ("b", NUM)), (), ())
        for step, what in (
            (("set", "x", zero), "zero"), (("set", "w", cell), "cell"), (("give", zero), "zero"), (("give", cell), "cell"),
            (("put", "r", zero, cell), "zero"), (("put", "r", cell, zero), "cell"), (("put", "r", number(3), zero), "zero"),
            (("put", "r", number(-1), ONE), "cell"), (("put", "r", number(3), ONE), "cell"), (("put", "s", ONE, ONE), "cell"),
            (("put", "r", number(9), cell), "cell"),
            (("check", ("<", zero, cell)), "zero"), (("check", ("==", cell, zero)), "cell"), (("if", ("!=", ONE, zero), (), ()), "zero"),
            (("while", ("<=", cell, ONE), ()), "cell"),
            (("call", None, "f", (zero, cell)), "zero"), (("call", "x", "f", (ONE, cell)), "cell"),
            (("call", "x", "f", (cell, zero)), "cell"),
        ):
            program = main_of(step, others=(called,))
            self.assertEqual(kind_of(program, state_of()), ("fault", what))
            refused(self, NotGoing, {}, moved, program, state_of(), None)
            self.assertEqual(run(program, (), 300), ("fault", what, 0, 0, state_of()))

    def test_great(self):
        called = ("f", (("a", NUM), ("b", ("word", 2))), (), ())
        steps = (
            ("set", "x", X), ("set", "w", X), ("give", X), ("put", "r", ONE, X), ("call", None, "f", (X, ONE)),
            ("call", "w", "f", (ONE, X)),
        )
        for step in steps:
            program = main_of(step, others=(called,))
            for n in (GREAT, -GREAT, GREAT + 1, -GREAT - 1, GREAT ** 3):
                self.assertEqual(kind_of(program, state_of(n)), ("great", None))
                refused(self, NotGoing, {}, moved, program, state_of(n), None)
            for n in (GREAT - 1, 1 - GREAT):
                self.assertEqual(kind_of(program, state_of(n)), GOES)
                moved(program, state_of(n), None)

    def test_great_by_a_sum(self):
        program = main_of(("set", "y", ("+", X, Y)))
        self.assertEqual(kind_of(program, state_of(GREAT - 1, 1)), ("great", None))
        self.assertEqual(kind_of(program, state_of(GREAT - 1, 0)), GOES)
        self.assertEqual(moved(program, state_of(GREAT + 5, -6), None), state_of(GREAT + 5, GREAT - 1, place=1))

    def test_great_is_let_in_guards_and_on_the_way(self):
        square = ("*", X, X)
        program = main_of(("check", ("<", Y, square)), ("set", "y", ("div", square, square)))
        self.assertEqual(run_from(program, state_of(GREAT - 1)), [GOES, GOES, GOES, ("done", 0)])
        program = main_of(("set", "y", ("-", ("+", X, X), ("+", X, ONE))))
        self.assertEqual(moved(program, state_of(GREAT), None), state_of(GREAT, GREAT - 1, place=1))

    def test_a_fault_comes_ahead_of_what_is_great(self):
        zero = ("div", ONE, ZERO)
        called = ("f", (("a", NUM), ("b", NUM)), (), ())
        for step, what in (
            (("put", "r", X, ONE), "cell"), (("put", "r", X, zero), "zero"), (("put", "r", ONE, ("cell", "r", X)), "cell"),
            (("put", "r", number(3), X), "cell"), (("call", None, "f", (X, zero)), "zero"),
            (("set", "x", ("+", X, zero)), "zero"),
        ):
            self.assertEqual(kind_of(main_of(step, others=(called,)), state_of(GREAT)), ("fault", what))
        self.assertEqual(kind_of(main_of(("put", "r", ONE, X)), state_of(GREAT)), ("great", None))

    def test_asks(self):
        for low, high, inside, outside in (
            (None, None, (0, -10 ** 50, 10 ** 50, GREAT * 2), ()), (-3, None, (-3, 0, GREAT), (-4, -10 ** 60)),
            (None, 5, (5, -GREAT), (6, 10 ** 60)), (-3, 5, (-3, 5), (-4, 6)), (2, 2, (2,), (1, 3)),
        ):
            program = main_of(("ask", "x", low, high))
            self.assertEqual(kind_of(program, state_of()), ("waits", (low, high)))
            for n in inside:
                self.assertEqual(moved(program, state_of(), n), state_of(n, place=1))
                self.assertEqual(run(program, (n,), 1), ("goes", None, 1, 1, state_of(n, place=1)))
            for n in outside:
                refused(self, InvalidNumber, {"given": n}, moved, program, state_of(), n)
                self.assertEqual(run(program, (n,), 300), ("waits", (low, high), 0, 0, state_of()))
            for n in (None, (0,)) + ODD:
                with self.assertRaises(InvalidNumber) as caught:
                    moved(program, state_of(), n)
                self.assertIs(caught.exception.given, n)


def run_from(program, state):
    """What each state is from one on, as long as it goes."""
    found = [kind_of(program, state)]
    while found[-1] == GOES:
        state = moved(program, state, None)
        found.append(kind_of(program, state))
    return found


class Runs(unittest.TestCase):
    asks = main_of(("ask", "x", 0, 5), ("ask", "y", None, None), ("give", ("+", X, Y)))

    def test_inputs(self):
        end = (((0, 4, (7,)),), ())
        self.assertEqual(run(self.asks, (3, 4), 300), ("done", 7, 3, 2, end))
        self.assertEqual(run(self.asks, (3, 4, 9, 9), 300), ("done", 7, 3, 2, end))
        self.assertEqual(run(self.asks, (3,), 300), ("waits", (None, None), 1, 1, state_of(3, place=1)))
        self.assertEqual(run(self.asks, (), 300), ("waits", (0, 5), 0, 0, state_of()))
        self.assertEqual(run(self.asks, (6, 1), 300), ("waits", (0, 5), 0, 0, state_of()))

    def test_most(self):
        self.assertEqual(run(self.asks, (3, 4), 0), ("goes", None, 0, 0, state_of()))
        self.assertEqual(run(self.asks, (), 0), ("waits", (0, 5), 0, 0, state_of()))
        self.assertEqual(run(self.asks, (9,), 0), ("waits", (0, 5), 0, 0, state_of()))
        self.assertEqual(run(self.asks, (3,), 1), ("waits", (None, None), 1, 1, state_of(3, place=1)))
        self.assertEqual(run(self.asks, (3, 4), 1), ("goes", None, 1, 1, state_of(3, place=1)))
        self.assertEqual(run(self.asks, (3, 4), 2), ("goes", None, 2, 2, state_of(3, 4, place=2)))
        self.assertEqual(run(self.asks, (3, 4), 3)[0], "done")
        self.assertEqual(run(main_of(("set", "x", ("div", ONE, X))), (), 0)[:3], ("fault", "zero", 0))
        self.assertEqual(run(main_of(("check", ("<", X, X))), (), 0)[:3], ("goes", None, 0))
        self.assertEqual(run(main_of(("check", ("<", X, X))), (), 1)[:3], ("fault", "check", 1))
        more = ("set", "x", ("*", ("*", X, number(2 ** 130)), number(2)))
        double = main_of(("set", "x", ONE), ("while", ("<", Y, X), (more,)))
        self.assertEqual(run(double, (), 300)[:4], ("great", None, 20, 0))
        self.assertEqual([run(double, (), most)[:3] for most in (19, 20)], [("goes", None, 19), ("great", None, 20)])

    def test_states(self):
        states = states_of(self.asks, (3, 4), 300)
        self.assertEqual(states, (state_of(), state_of(3, place=1), state_of(3, 4, place=2), (((0, 4, (7,)),), ())))
        self.assertEqual(states_of(self.asks, (3, 4), 1), states[:2])
        self.assertEqual(states_of(self.asks, (), 300), states[:1])
        again = main_of(("while", ("<=", X, X), ()))
        self.assertEqual(states_of(again, (), 5), (state_of(),) * 6)
        self.assertEqual(run(again, (), 300), ("goes", None, 300, 0, state_of()))

    def test_each_state_goes_to_the_next_one(self):
        states = states_of(self.asks, (3, 4), 300)
        for state, behind, given in zip(states, states[1:], (3, 4, None)):
            self.assertEqual(moved(self.asks, state, given), behind)

    def test_frames(self):
        again = ((), (("main", (), (), (("call", None, "main", ()),)),))
        deepest = run(again, (), 300)
        self.assertEqual(deepest[:4], ("goes", None, 300, 0))
        self.assertEqual(deepest[4], (((0, 0, ()),) * 301, ()))
        self.assertEqual(kind_of(again, deepest[4]), GOES)
        self.assertEqual(moved(again, (deepest[4][0][1:], ()), None), deepest[4])
        further = moved(again, deepest[4], None)
        self.assertEqual(further, (((0, 0, ()),) * 302, ()))
        refused(self, InvalidState, {"given": further}, kind_of, again, further)
        refused(self, InvalidState, {"given": further}, moved, again, further, None)
        last = (((0, 0, ()),) * 300 + ((0, 2, (7,)),), ())
        self.assertEqual(moved(again, last, None), (((0, 0, ()),) * 299 + ((0, 1, ()),), ()))

    def test_a_procedure_that_calls_itself(self):
        n = ("name", "n")
        called = ("f", (("n", NUM),), (("m", NUM),), (
            ("if", ("<", n, ONE), (("give", ONE),), ()), ("call", "m", "f", (("-", n, ONE),)), ("give", ("*", ("name", "m"), n))))
        program = main_of(("ask", "x", 0, 20), ("call", "y", "f", (X,)), ("give", Y), others=(called,))
        for x, product in ((0, 1), (1, 1), (5, 120), (20, 2432902008176640000)):
            self.assertEqual(run(program, (x,), 300)[:4], ("done", product, 6 + 4 * x, 1))
        states = states_of(program, (5,), 300)
        self.assertEqual(max(len(state[0]) for state in states), 7)

    def test_what_was_returned_may_be_passed(self):
        program = main_of(("ask", "x", None, None), ("check", ("<", X, ("*", X, X))), ("give", ("mod", X, number(7))))
        state = moved(program, first_state(program), 7 ** 4000 + 3)
        while kind_of(program, state) == GOES:
            state = moved(program, state, None)
        self.assertEqual(kind_of(program, state), ("done", 3))
        self.assertEqual(run(program, (state_of(7 ** 4000)[0][0][2][0],), 300)[:2], ("done", 0))


class States(unittest.TestCase):
    """Which values are states."""

    called = ("f", (("a", NUM),), (("w", ("word", 2)), ("t", ("row", 2))), (("call", None, "f", (ONE,)), ("give", ONE)))
    program = main_of(
        ("call", "x", "f", (X,)), ("call", None, "main", ()), ("check", LESS[:1] + (X, Y)), shared=(("g", NUM), ("k", ("word", 3)), ("q", ("row", 2))),
        others=(called,))
    shared = (5, 7, (1, -2))
    own = (1, 2, 3, (4, 5, 6), (7,))
    below = (-8, 3, (0, 1))

    def told(self, *frames):
        return (frames, self.shared)

    def test_right_ones(self):
        for frames in (
            ((0, 0, self.own),), ((0, 3, self.own),), ((0, 4, self.own),), ((0, 5, (-9,)),), ((0, 0, self.own), (1, 0, self.below)),
            ((0, 0, self.own), (1, 0, self.below), (1, 3, (4,))), ((0, 1, self.own), (0, 5, (4,))),
            ((0, 1, self.own), (0, 0, self.own), (1, 2, self.below)), ((0, 1, self.own),) * 301,
        ):
            kind_of(self.program, self.told(*frames))
        kind_of(self.program, (((0, 0, (10 ** 99, -10 ** 99, 0, (0, 0, 10 ** 99), (0,))),), (-10 ** 99, 0, (0, 0))))

    def test_wrong_ones(self):
        own, below, shared = self.own, self.below, self.shared
        frame = (0, 0, own)
        wrong = [
            (), (frame,), ((frame,),), ((frame,), shared, ()), [(frame,), shared], (frame, shared), ([frame], shared),
            self.told(), self.told(*((0, 1, own),) * 302), self.told((1, 0, below)), self.told((0, 1, own), (1, 0, below)),
            self.told((0, 0, own), (0, 0, own)), self.told((0, 2, own), (0, 0, own)), self.told((0, 3, own), (0, 0, own)),
            self.told((0, 4, own), (1, 0, below)), self.told((0, 5, (4,)), (1, 0, below)), self.told((0, 0, own), (1, 1, below), (1, 0, below)),
            self.told((0, 0, own), (1, 0, below), (0, 0, own)),
            self.told((0, 6, own)), self.told((0, -1, own)), self.told((-1, 0, own)), self.told((2, 0, own)), self.told((0, True, own)),
            self.told((False, 0, own)), self.told((0, 0)), self.told((0, 0, own, ())), self.told([0, 0, own]), self.told((0, "0", own)),
            self.told((None, 0, own)), self.told((0, None, own)), self.told((0, 0, None)), self.told(None), self.told((0, 0, list(own))),
            self.told((0, 5, own)), self.told((0, 5, ())), self.told((0, 5, (1, 2))), self.told((0, 5, (True,))), self.told((0, 5, 1)),
            self.told((0, 0, (4,))), self.told((0, 0, own[:-1])), self.told((0, 0, own + (0,))),
            self.told((0, 0, (True,) + own[1:])), self.told((0, 0, (None,) + own[1:])), self.told((0, 0, ("1",) + own[1:])),
            self.told((0, 0, own[:2] + (8,) + own[3:])), self.told((0, 0, own[:2] + (-1,) + own[3:])),
            self.told((0, 0, own[:2] + (True,) + own[3:])), self.told((0, 0, own[:3] + ((1, 2, 3, 4), (7,)))),
            self.told((0, 0, own[:3] + ((1, 2), (7,)))), self.told((0, 0, own[:3] + ((1, 2, True), (7,)))),
            self.told((0, 0, own[:3] + ([1, 2, 3], (7,)))), self.told((0, 0, own[:3] + (3, (7,)))),
            self.told((0, 0, own), (1, 0, (-8, 4, (0, 1)))), self.told((0, 0, own), (1, 0, (-8, 3, (0, 1, 2)))),
            ((frame,), ()), ((frame,), shared[:2]), ((frame,), shared + (0,)), ((frame,), (5, 8, (1, 2))), ((frame,), (5, -1, (1, 2))),
            ((frame,), (True, 7, (1, 2))), ((frame,), (5, 7, (1, 2, 3))), ((frame,), (5, 7, (1,))), ((frame,), (5, 7, 1)),
            ((frame,), list(shared)), ((frame,), (5, (7,), (1, 2))), ((frame,), None),
        ]
        wrong += list(ODD) + [None, 1, (None, None), ((frame,), ODD[-1]), (ODD[-1], shared), self.told(ODD[-1]), self.told((0, ODD[-1], own))]
        wrong += [self.told((0, 0, (ODD[-1],) + own[1:])), self.told((ODD[-1], 0, own)), self.told((0, 0, ODD[-1]))]
        for value in wrong:
            for call, given in ((kind_of, (self.program, value)), (moved, (self.program, value, None))):
                with self.assertRaises(InvalidState) as caught:
                    call(*given)
                self.assertIs(caught.exception.given, value)


class Refusals(unittest.TestCase):
    programs = [(((), None), InvalidProgram, {"place": (1,)}), (None, InvalidProgram, {"place": ()})]
    inputs = index_wrongs(
        InvalidInputs, *[(value, None) for value in (None, 0) + ODD], ((0,) * 301, None), ((None,) * 301, None),
        ((None,), 0), ((1, 2, True), 2), ((1, "2", None), 1), ((0,) * 299 + ((),), 299), ((0, ODD[-1]), 1))
    mosts = given_wrongs(InvalidNumber, None, -1, 301, (), (0,), 10 ** 50, *ODD)

    def test_refusals(self):
        program = main_of(("ask", "x", 0, 5))
        states = given_wrongs(InvalidState, None, 0, (), ((), ()), *ODD, (((0, 0, ()),), ()))
        numbers = given_wrongs(InvalidNumber, None, -1, 6, (), (0,), *ODD)
        asked_in_order(self, first_state, {"program": program}, {"program": self.programs})
        asked_in_order(self, kind_of, {"program": program, "state": state_of()}, {"program": self.programs, "state": states})
        asked_in_order(self, moved, {"program": program, "state": state_of(), "number": 3},
                       {"program": self.programs, "state": states, "number": numbers})
        for call in (run, states_of):
            asked_in_order(self, call, {"program": program, "inputs": (3, 3), "most": 300},
                           {"program": self.programs, "inputs": self.inputs, "most": self.mosts})
            call(program, (0,) * 300, 0)

    def test_numbers_that_come_in_where_none_may(self):
        program = main_of(("set", "x", ONE), ("set", "x", ("div", ONE, ZERO)), ("check", ("<", X, X)), ("set", "w", X))
        self.assertEqual(graph_of(program, 0)[0], 7)
        for state, word in (
            (state_of(), "goes"), (state_of(place=1), "fault"), (state_of(place=2), "goes"), (state_of(place=3), "fault"),
            (state_of(GREAT, place=4), "great"), ((((0, 6, (1,)),), ()), "done"),
        ):
            self.assertEqual(kind_of(program, state)[0], word)
            for given in (0, 1, (), (None,)) + ODD:
                with self.assertRaises(InvalidNumber) as caught:
                    moved(program, state, given)
                self.assertIs(caught.exception.given, given)
            if word != "goes":
                refused(self, NotGoing, {}, moved, program, state, None)
                refused(self, NotGoing, {}, moved, number=None, state=state, program=program)

    def test_helper_programs(self):
        self.assertEqual(run(program_of(("set", "i", ("+", I, ONE))), (), 300)[:2], ("done", 0))


if __name__ == "__main__":
    unittest.main()
