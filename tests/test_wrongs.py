"""[A1] to [A5]: what is a program, and the first path at which a value is wrong."""

import unittest

from soundlooks.trees import is_program, wrong_in
from tests.helper import I, LESS, NUM, ONE, RICH, nested, part, paths_in, program_of, program_with, replaced

LANGUAGE = "num word row proc ask from to any if else while call check give given div mod not and or".split()
NO_PARTS = (True, False, "Q!", [], {}, b"x", object(), 1 << 200, -1 << 200)


def kinds(kind, many, letter):
    return tuple((letter + str(at), kind) for at in range(many))


def with_globals(*pairs):
    return (pairs, (("main", (), (), ()),))


def with_locals(*pairs):
    return ((), (("main", (), pairs, ()),))


def with_procs(*procs):
    return ((), (("main", (), (), ()),) + procs)


def with_bodies(*bodies):
    return ((), tuple(("p" + str(at), (), (("i", NUM),), body) for at, body in enumerate(bodies)))


def blocks(word, many):
    """A statement with so many blocks one within the other, the last one empty."""
    value = ()
    for _ in range(many):
        value = ((word, LESS, value, ()),) if word == "if" else ((word, LESS, value),)
    return value[0]


class Asked(unittest.TestCase):
    def right(self, value):
        self.assertIsNone(wrong_in(value))
        self.assertIs(is_program(value), True)

    def wrong(self, value, path):
        self.assertEqual(wrong_in(value), path)
        self.assertIs(is_program(value), False)


class Names(Asked):
    def test_right(self):
        for name in ("a", "z9", "abcdefghijkl", "a23456789012", "number", "name", "set", "put", "ifs", "num1"):
            self.right(with_globals((name, NUM)))
            self.right(((), ((name, (), (), ()),)))
            self.right(with_locals((name, NUM)))

    def test_wrong(self):
        signs = ("", "1", "1a", "A", "aB", "a_", "_a", "a b", "a\n", " a", "\u00e4", "a\u00e4", "\u0131", "a\u0661", "!")
        for name in signs + ("abcdefghijklm", "a" * 1000, None, 1, True, (), ("a",), [], b"a", ["a"], {"a": 1}):
            self.wrong(with_globals((name, NUM)), (0, 0, 0))
            self.wrong(((), ((name, (), (), ()),)), (1, 0, 0))
            self.wrong(with_locals((name, NUM)), (1, 0, 2, 0, 0))
            self.wrong(with_procs(("p", ((name, NUM),), (), ())), (1, 1, 1, 0, 0))

    def test_words_of_the_language(self):
        self.assertEqual(len(LANGUAGE), 20)
        for name in LANGUAGE:
            self.wrong(with_globals((name, NUM)), (0, 0, 0))
            self.wrong(with_procs((name, (), (), ())), (1, 1, 0))
            self.wrong(program_of(("set", name, ONE)), (1, 0, 3, 0, 1))


class Kinds(Asked):
    def test_right(self):
        for kind in [NUM] + [("word", w) for w in range(1, 17)] + [("row", n) for n in range(1, 9)]:
            self.right(with_globals(("a", kind)))
            self.right(with_locals(("a", kind)))

    def test_wrong(self):
        for kind in (
            ("word", 0), ("word", 17), ("word", -1), ("word", True), ("word", None), ("word", "1"), ("word", (1,)),
            ("word",), ("word", 1, 1), ("row", 0), ("row", 9), ("row", -3), ("row", True), ("row", None), ("row",),
            ("row", 2, 2), ("num", 1), ("num", None), (), ("Num",), ("cell", 1), (None,), (1,), "num", None, 1,
            ["num"], ["word", 1], (("num",),), ([], 1), True,
        ):
            self.wrong(with_globals(("a", kind)), (0, 0, 1))
            self.wrong(with_locals(("a", kind)), (1, 0, 2, 0, 1))
            self.wrong(with_procs(("p", (("a", kind),), (), ())), (1, 1, 1, 0, 1))

    def test_no_rows_for_params(self):
        self.wrong(with_procs(("p", (("a", NUM), ("b", ("row", 1))), (), ())), (1, 1, 1, 1, 1))
        self.right(with_procs(("p", (("a", NUM), ("b", ("word", 1))), (), ())))


class Pairs(Asked):
    def test_no_pairs(self):
        for pair in (None, (), ("a",), ("a", NUM, 1), ["a", NUM], "ab", 1, True, {"a": NUM}):
            self.wrong(with_globals(("b", NUM), pair), (0, 1))
            self.wrong(with_locals(pair), (1, 0, 2, 0))
            self.wrong(with_procs(("p", (pair,), (), ())), (1, 1, 1, 0))

    def test_name_ahead_of_kind(self):
        self.wrong(with_globals(("A", None)), (0, 0, 0))
        self.wrong(with_globals(("a", NUM), ("a", None)), (0, 1, 0))

    def test_names_that_stand_ahead(self):
        self.wrong(with_globals(("a", NUM), ("b", NUM), ("a", ("row", 1))), (0, 2, 0))
        self.wrong(((("a", NUM),), (("p", (), (("a", NUM),), ()),)), (1, 0, 2, 0, 0))
        self.wrong(((("a", NUM),), (("p", (), (), ()), ("q", (("a", NUM),), (), ()))), (1, 1, 1, 0, 0))
        self.wrong(with_procs(("p", (("a", NUM), ("a", NUM)), (), ())), (1, 1, 1, 1, 0))
        self.wrong(with_procs(("p", (("a", NUM),), (("b", NUM), ("a", NUM)), ())), (1, 1, 2, 1, 0))

    def test_names_that_are_let(self):
        own = (("p", (), (("q", NUM),), ()), ("q", (("main", NUM),), (("r", NUM),), ()))
        self.right(((("p", NUM),), own))
        self.right(((), (("p", (), (("a", NUM),), ()), ("q", (("a", NUM),), (), ()), ("r", (), (("a", NUM),), ()))))

    def test_eight_numbers(self):
        eight, nine = kinds(NUM, 8, "n"), kinds(("word", 2), 9, "n")
        self.right(with_globals(*eight))
        self.wrong(with_globals(*nine), (0, 8))
        self.right(with_locals(*eight))
        self.wrong(with_locals(*nine), (1, 0, 2, 8))
        self.right(with_procs(("p", eight, (), ())))
        self.wrong(with_procs(("p", nine, (), ())), (1, 1, 1, 8))
        self.right((eight[:3], (("p", (), eight[3:], ()), ("q", eight[3:5], eight[5:], ()))))
        self.wrong((nine[:3], (("p", (), nine[3:8], ()), ("q", nine[3:5], nine[5:], ()))), (1, 1, 2, 3))
        self.wrong((eight, (("p", (), (), ()), ("q", (("x", NUM),), (), ()))), (1, 1, 1, 0))
        self.wrong((nine, ()), (0, 8))

    def test_four_rows(self):
        four, five = kinds(("row", 8), 4, "r"), kinds(("row", 1), 5, "r")
        self.right(with_globals(*four))
        self.wrong(with_globals(*five), (0, 4))
        self.right(with_locals(*four))
        self.wrong(with_locals(*five), (1, 0, 2, 4))
        self.right((four[:1], (("p", (), four[1:], ()),)))
        self.wrong((four, (("p", (), (("x", ("row", 1)),), ()),)), (1, 0, 2, 0))
        self.wrong((five, ()), (0, 4))

    def test_both_beside_one_another(self):
        both = kinds(("row", 8), 4, "r") + kinds(NUM, 8, "n")
        self.right(with_globals(*both))
        self.wrong(with_globals(*both, ("x", NUM)), (0, 12))
        self.wrong(with_globals(*both, ("x", ("row", 3))), (0, 12))

    def test_one_too_many_is_told_last(self):
        eight = kinds(NUM, 8, "n")
        self.wrong(with_globals(*eight, ("n0", NUM)), (0, 8, 0))
        self.wrong(with_globals(*eight, ("X", NUM)), (0, 8, 0))
        self.wrong(with_globals(*eight, ("x", ("num", 1))), (0, 8, 1))
        self.wrong((eight, (("p", (), (), ()), ("q", (("x", ("row", 1)),), (), ()))), (1, 1, 1, 0, 1))


class Procedures(Asked):
    def test_no_program(self):
        for value in (None, True, 0, "", "ab", [], [(), ()], (), ((),), ((), (), ()), {}, object(), "proc p() {}"):
            self.wrong(value, ())

    def test_no_globals(self):
        for value in (None, True, 0, "ab", [], {}, object()):
            self.wrong((value, ()), (0,))
            self.wrong((value, 1), (0,))

    def test_no_procs(self):
        for value in (None, True, 0, "ab", [], {}, (), [("p", (), (), ())]):
            self.wrong(((), value), (1,))

    def test_one_to_six(self):
        procs = tuple(("p" + str(at), (), (), ()) for at in range(7))
        for many in range(1, 7):
            self.right(((), procs[:many]))
        self.wrong(((), procs), (1,))
        self.wrong(((), (None,) * 7), (1,))
        self.wrong(((("A", NUM),), procs), (0, 0, 0))

    def test_no_procedure(self):
        for value in (None, True, "abcd", [], (), ("p", (), ()), ("p", (), (), (), ()), ["p", (), (), ()]):
            self.wrong(((), (value,)), (1, 0))
            self.wrong(with_procs(value), (1, 1))

    def test_unlike_names(self):
        self.wrong(with_procs(("q", (), (), ()), ("main", (), (), ())), (1, 2, 0))

    def test_no_tuples(self):
        for value in (None, True, 0, "ab", [], {}):
            self.wrong(((), (("p", value, (), ()),)), (1, 0, 1))
            self.wrong(((), (("p", (), value, ()),)), (1, 0, 2))
            self.wrong(((), (("p", (), (), value),)), (1, 0, 3))

    def test_params_of_the_first(self):
        self.wrong(((), (("p", (("a", NUM),), (), ()),)), (1, 0, 1))
        self.wrong(((), (("p", (None,), (), ()),)), (1, 0, 1))
        self.wrong(((("a", NUM),), (("p", (("a", 1),), (), ()),)), (1, 0, 1))

    def test_heads_come_ahead_of_bodies(self):
        self.wrong(((), (("p", (), (), None), ("p", (), (), ()))), (1, 1, 0))
        self.wrong(((), (("p", (), (), (1,)), ("q", (), (("a", 1),), ()))), (1, 1, 2, 0, 1))
        self.wrong(((), (("p", (), (), (1,)), ("q", (), (), None))), (1, 0, 3, 0))
        self.wrong(((), (("p", (), (), ()), ("q", (), (), None))), (1, 1, 3))


class Parts(Asked):
    """Values of any kind instead of each part of a program that has all kinds of parts."""

    def test_the_program_itself(self):
        self.right(RICH)

    def expected(self, path):
        """The path that is wrong if what stands at a path is of no use there."""
        for many in range(len(path)):
            ahead = part(RICH, path[:many + 1])
            if isinstance(ahead, tuple) and ahead[:1] in (("num",), ("word",), ("row",)):
                return path[:many + 1]
        above = part(RICH, path[:-1])
        is_first_word = path != () and path[-1] == 0 and isinstance(above[0], str) and len(path) > 3 and (
            path[2] == 3)
        return path[:-1] if is_first_word else path

    def test_values_that_stand_nowhere(self):
        for path in paths_in(RICH):
            for value in NO_PARTS:
                self.wrong(replaced(RICH, path, value), self.expected(path))

    def test_none_stands_for_bounds_and_aims_alone(self):
        let = [(1, 0, 3, 2, 2), (1, 0, 3, 2, 3), (1, 0, 3, 3, 2), (1, 0, 3, 3, 3), (1, 0, 3, 5, 1), (1, 0, 3, 6, 1)]
        for path in paths_in(RICH):
            value = replaced(RICH, path, None)
            if path in let:
                self.right(value)
            else:
                self.wrong(value, self.expected(path))

    def test_lists_for_tuples(self):
        for path in paths_in(RICH):
            if isinstance(part(RICH, path), tuple):
                self.wrong(replaced(RICH, path, list(part(RICH, path))), self.expected(path))

    def has_fixed_size(self, path):
        if path in ((0,), (1,)) or len(path) == 3 and path[0] == 1:
            return False
        value = part(RICH, path)
        is_block_or_arguments = value == () or isinstance(value[0], tuple)
        return path == () or not is_block_or_arguments or path[:-1] in ((1, 0, 3, 5), (1, 0, 3, 6))

    def test_too_few_and_too_many(self):
        asked = 0
        for path in paths_in(RICH):
            value = part(RICH, path)
            if isinstance(value, tuple) and self.has_fixed_size(path):
                asked += 1
                self.wrong(replaced(RICH, path, value + (ONE,)), self.expected(path))
                self.wrong(replaced(RICH, path, value + (None, None)), self.expected(path))
                if value != ():
                    self.wrong(replaced(RICH, path, value[:-1]), self.expected(path))
        self.assertGreater(asked, 70)

    def test_true_for_one(self):
        for path in paths_in(RICH):
            if isinstance(part(RICH, path), int):
                self.wrong(replaced(RICH, path, True), self.expected(path))
                self.wrong(replaced(RICH, path, False), self.expected(path))


class Expressions(Asked):
    AT = (1, 0, 3, 0, 1)

    def test_right(self):
        for value in (
            ("number", 0), ("number", 10 ** 40 - 1), I, ("name", "w"), ("cell", "r", ("number", 99)), ("minus", ONE),
            ("+", I, I), ("-", I, I), ("*", I, I), ("div", I, ("number", 0)), ("mod", I, I),
        ):
            self.right(program_with(value))

    def test_wrong_themselves(self):
        for value in (
            None, 0, "i", [], (), ("i",), ("number",), ("number", 1, 1), ("name",), ("name", "i", "i"), ("cell", "r"),
            ("cell", "r", ONE, ONE), ("minus",), ("minus", ONE, ONE), ("+", ONE), ("+", ONE, ONE, ONE), ("-", ONE),
            ("*",), ("div", ONE), ("mod", ONE), ("/", ONE, ONE), ("num",), ("not", LESS), LESS, ("and", LESS, LESS),
            ("Number", 1), (None, 1), (("number", 1),), (["number"], 1), ("set", "i", ONE), (b"number", 1),
        ):
            self.wrong(program_with(value), self.AT)
            self.wrong(program_with(("minus", value)), self.AT + (1,))
            self.wrong(program_with(("cell", "r", value)), self.AT + (2,))
            for sign in ("+", "-", "*", "div", "mod"):
                self.wrong(program_with((sign, value, None)), self.AT + (1,))
                self.wrong(program_with((sign, ONE, value)), self.AT + (2,))

    def test_wrong_elements(self):
        for value in (-1, 10 ** 40, 10 ** 399, True, False, None, "1", (1,), [1], b"1"):
            self.wrong(program_with(("number", value)), self.AT + (1,))
        for value in ("q", "r", "one", "", "A", None, 1, True, ("i",), [], {}, b"i"):
            self.wrong(program_with(("name", value)), self.AT + (1,))
        for value in ("q", "i", "w", "one", "", None, 1, True, ("r",), []):
            self.wrong(program_with(("cell", value, None)), self.AT + (1,))

    def test_eight_deep(self):
        self.right(program_with(nested(ONE, 7)))
        self.wrong(program_with(nested(ONE, 8)), self.AT + (1,) * 8)
        self.wrong(program_with(nested(None, 8)), self.AT + (1,) * 8)
        self.wrong(program_with(nested(ONE, 20)), self.AT + (1,) * 8)
        self.wrong(program_with(("+", nested(ONE, 7), None)), self.AT + (1,) * 8)
        self.wrong(program_with(("+", nested(ONE, 6), None)), self.AT + (2,))
        self.right(program_with(("cell", "r", nested(ONE, 6))))
        self.wrong(program_with(("cell", "r", nested(ONE, 7))), self.AT + (2,) + (1,) * 7)


class Conditions(Asked):
    AT = (1, 0, 3, 0, 1)

    def asked(self, condition):
        return program_of(("check", condition))

    def test_right(self):
        for value in (LESS, ("<=", I, ONE), ("==", I, ONE), ("!=", I, ONE), ("not", LESS), ("and", LESS, LESS),
                      ("or", LESS, LESS)):
            self.right(self.asked(value))

    def test_wrong_themselves(self):
        for value in (
            None, 0, "i", [], (), ("i",), ONE, I, ("+", ONE, ONE), ("minus", ONE), ("<", ONE), ("<", ONE, ONE, ONE),
            ("<=", ONE), ("==",), ("!=", ONE), (">", ONE, ONE), (">=", ONE, ONE), ("=", ONE, ONE), ("not",),
            ("not", LESS, LESS), ("and", LESS), ("or", LESS), ("and", LESS, LESS, LESS), ("guard", "<", ONE, ONE),
        ):
            self.wrong(self.asked(value), self.AT)
            self.wrong(self.asked(("not", value)), self.AT + (1,))
            for word in ("and", "or"):
                self.wrong(self.asked((word, value, None)), self.AT + (1,))
                self.wrong(self.asked((word, LESS, value)), self.AT + (2,))

    def test_wrong_expressions_within(self):
        for sign in ("<", "<=", "==", "!="):
            for value in (None, LESS, 0, "i", (), ("name",)):
                self.wrong(self.asked((sign, value, None)), self.AT + (1,))
                self.wrong(self.asked((sign, ONE, value)), self.AT + (2,))

    def test_eight_deep(self):
        def nots(value, times):
            for _ in range(times):
                value = ("not", value)
            return value

        self.right(self.asked(nots(("<", I, ONE), 6)))
        self.wrong(self.asked(nots(("<", I, ONE), 7)), self.AT + (1,) * 8)
        self.wrong(self.asked(nots(None, 8)), self.AT + (1,) * 8)
        self.wrong(self.asked(nots(LESS, 8)), self.AT + (1,) * 8)
        self.right(self.asked(("<", nested(ONE, 6), ONE)))
        self.wrong(self.asked(("<", nested(ONE, 7), ONE)), self.AT + (1,) * 8)
        self.wrong(self.asked(("<", ONE, nested(ONE, 7))), self.AT + (2,) + (1,) * 7)
        self.right(self.asked(nots(("<", I, nested(ONE, 3)), 3)))
        self.wrong(self.asked(nots(("<", I, nested(ONE, 3)), 4)), self.AT + (1,) * 4 + (2,) + (1,) * 3)


class Statements(Asked):
    AT = (1, 0, 3, 0)

    def test_wrong_themselves(self):
        for value in (
            None, 0, "set", [], (), ("set",), ("set", "i"), ("set", "i", ONE, ONE), ("put", "r", ONE),
            ("put", "r", ONE, ONE, ONE), ("ask", "i", None), ("ask", "i", None, None, None), ("if", LESS, ()),
            ("if", LESS, (), (), ()), ("while", LESS), ("while", LESS, (), ()), ("call", None, "one"), ("check",),
            ("call", None, "one", (ONE,), ()), ("check", LESS, LESS), ("give",), ("give", ONE, ONE), ("Set", "i", ONE),
            ("return", ONE), (None, "i", ONE), (("set",), "i", ONE), ["set", "i", ONE], ("guard", "<", I, ONE), ONE,
        ):
            self.wrong(program_of(value), self.AT)
            self.wrong(program_of(("if", LESS, (value,), ())), self.AT + (2, 0))
            self.wrong(program_of(("if", LESS, (), (("give", ONE), value))), self.AT + (3, 1))
            self.wrong(program_of(("while", LESS, (value,))), self.AT + (2, 0))

    def test_set_and_put(self):
        self.right(program_of(("set", "i", ONE), ("set", "w", ONE), ("put", "r", ONE, ONE)))
        for name in ("q", "r", "one", "x", "", None, True, 0, ("i",), []):
            self.wrong(program_of(("set", name, None)), self.AT + (1,))
        for name in ("q", "i", "w", "one", "", None, True, 0, ("r",), []):
            self.wrong(program_of(("put", name, None, None)), self.AT + (1,))
        for value in (None, 0, "i", LESS, ()):
            self.wrong(program_of(("set", "i", value)), self.AT + (2,))
            self.wrong(program_of(("put", "r", value, None)), self.AT + (2,))
            self.wrong(program_of(("put", "r", ONE, value)), self.AT + (3,))

    def test_ask(self):
        most = 10 ** 40 - 1
        for low, high in ((None, None), (-most, most), (0, 0), (most, most), (-most, -most), (None, -5), (5, None)):
            self.right(program_of(("ask", "i", low, high), ("ask", "w", low, high)))
        for name in ("q", "r", "one", None, 0):
            self.wrong(program_of(("ask", name, True, True)), self.AT + (1,))
        for bound in (True, False, "0", "any", (), ("number", 1), ONE, most + 1, -most - 1, [], b"0"):
            self.wrong(program_of(("ask", "i", bound, True)), self.AT + (2,))
            self.wrong(program_of(("ask", "i", None, bound)), self.AT + (3,))
            self.wrong(program_of(("ask", "i", 0, bound)), self.AT + (3,))
        for low, high in ((1, 0), (0, -1), (most, most - 1), (-most + 1, -most)):
            self.wrong(program_of(("ask", "i", low, high)), self.AT + (3,))

    def test_if_and_while(self):
        self.right(program_of(("if", LESS, (), ()), ("while", LESS, ())))
        for value in (None, ONE, 0, "c", ()):
            self.wrong(program_of(("if", value, None, None)), self.AT + (1,))
            self.wrong(program_of(("while", value, None)), self.AT + (1,))
        for value in (None, True, 0, "", [], {}):
            self.wrong(program_of(("if", LESS, value, None)), self.AT + (2,))
            self.wrong(program_of(("if", LESS, (), value)), self.AT + (3,))
            self.wrong(program_of(("while", LESS, value)), self.AT + (2,))
        self.wrong(program_of(("if", LESS, (None,), None)), self.AT + (2, 0))
        self.wrong(program_of(("if", ("not", None), (None,), None)), self.AT + (1, 1))

    def test_call(self):
        self.right(program_of(("call", None, "one", (ONE,)), ("call", "w", "main", ()), ("call", "i", "one", (I,))))
        for aim in ("q", "r", "one", "x", "", True, 0, (), []):
            self.wrong(program_of(("call", aim, None, None)), self.AT + (1,))
        for name in ("q", "i", "r", "", None, True, 0, (), []):
            self.wrong(program_of(("call", None, name, None)), self.AT + (2,))
        for given in (None, True, 0, "", "a", [], [ONE], (), (ONE, ONE), (None, None), {"a": 1}):
            self.wrong(program_of(("call", None, "one", given)), self.AT + (3,))
        self.wrong(program_of(("call", None, "main", (None,))), self.AT + (3,))
        for value in (None, 0, "i", LESS, ()):
            self.wrong(program_of(("call", "i", "one", (value,))), self.AT + (3, 0))
        self.wrong(program_of(("call", None, "one", (nested(ONE, 8),))), self.AT + (3, 0) + (1,) * 8)
        self.right(program_of(("call", None, "one", (nested(ONE, 7),))))

    def test_check_and_give(self):
        self.wrong(program_of(("check", ONE)), self.AT + (1,))
        self.wrong(program_of(("give", LESS)), self.AT + (1,))

    def test_sight_is_that_of_the_procedure(self):
        own = (("p", (), (("i", NUM),), (("call", None, "q", (I,)),)),
               ("q", (("x", NUM),), (("s", ("row", 1)),), (("set", "x", ("cell", "s", ("name", "g"))),)))
        self.right(((("g", NUM),), own))
        self.wrong(((), own), (1, 1, 3, 0, 2, 2, 1))
        other = ("q", (("x", NUM),), (), (("set", "i", ONE),))
        self.wrong(((), (own[0], other)), (1, 1, 3, 0, 1))

    def test_order(self):
        self.wrong(program_of(("give", ("name", "q")), None), self.AT + (1, 1))
        self.wrong(program_of(("give", ONE), None, ("give", None)), (1, 0, 3, 1))
        self.wrong(with_bodies((("give", ONE),), (None,), None), (1, 1, 3, 0))
        self.wrong(program_of(("if", LESS, (("give", None),), (None,)), None), self.AT + (2, 0, 1))


class Bounds(Asked):
    def test_sixty_statements(self):
        give = ("give", ONE)
        self.right(with_bodies((give,) * 60))
        self.wrong(with_bodies((give,) * 61), (1, 0, 3, 60))
        self.wrong(with_bodies((give,) * 60 + (None,)), (1, 0, 3, 60))
        self.wrong(with_bodies((give,) * 61 + (None,)), (1, 0, 3, 60))
        self.wrong(with_bodies((give,) * 59 + (None, give)), (1, 0, 3, 59))

    def test_sixty_in_all_bodies(self):
        give = ("give", ONE)
        self.right(with_bodies((give,) * 30, (), (give,) * 30))
        self.wrong(with_bodies((give,) * 30, (), (give,) * 31), (1, 2, 3, 30))

    def test_sixty_with_those_within_others(self):
        give = ("give", ONE)
        inner = ("if", LESS, (give,) * 20, (("while", LESS, (give,) * 20),))
        self.right(with_bodies((inner,) + (give,) * 18))
        self.wrong(with_bodies((inner,) + (give,) * 19), (1, 0, 3, 19))
        self.wrong(with_bodies((give,) * 30 + (inner,)), (1, 0, 3, 30, 3, 0, 2, 8))
        self.wrong(with_bodies((give,) * 40 + (inner,)), (1, 0, 3, 40, 2, 19))
        self.wrong(with_bodies((give,) * 39 + (inner,)), (1, 0, 3, 39, 3, 0))

    def test_eight_deep(self):
        for word in ("if", "while"):
            self.right(with_bodies((blocks(word, 8),)))
            self.wrong(with_bodies((blocks(word, 9),)), (1, 0, 3, 0) + (2, 0) * 8)
            self.wrong(with_bodies((blocks(word, 12),)), (1, 0, 3, 0) + (2, 0) * 8)
        deepest = replaced(blocks("while", 8), (2, 0) * 7 + (2,), (None,))
        self.wrong(with_bodies((deepest,)), (1, 0, 3, 0) + (2, 0) * 8)
        in_else = ("if", LESS, (), (blocks("while", 8),))
        self.wrong(with_bodies((in_else,)), (1, 0, 3, 0, 3, 0) + (2, 0) * 7)
        self.right(with_bodies((("if", LESS, (), (blocks("while", 7),)),)))

    def test_deep_ahead_of_the_rest(self):
        self.wrong(with_bodies((blocks("if", 9), None)), (1, 0, 3, 0) + (2, 0) * 8)


if __name__ == "__main__":
    unittest.main()
