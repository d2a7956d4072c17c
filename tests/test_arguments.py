"""[4] to [6]: arguments by position and by name, which is refused first, and that none is changed."""

import inspect
import unittest

from soundlooks import text, trees
from soundlooks.errors import InvalidIndex, InvalidProgram, InvalidText
from tests.helper import I, LESS, RICH, program_of, refused

SIGNATURES = {
    text.tokens: ("text",),
    text.read: ("text",),
    text.show: ("program",),
    text.shown_expression: ("program", "proc", "value"),
    text.shown_condition: ("program", "proc", "value"),
    text.lines_of: ("program",),
    trees.is_program: ("value",),
    trees.wrong_in: ("value",),
    trees.part_at: ("program", "path"),
    trees.statement_count: ("program",),
    trees.numbers_of: ("program", "proc"),
    trees.rows_of: ("program", "proc"),
    trees.marks_of: ("program",),
}
RIGHT = {"text": "proc p() { }", "program": program_of(), "proc": 0, "path": ()}
WRONG = {
    "text": (None, InvalidText, {"line": None, "column": None}),
    "program": (((), None), InvalidProgram, {"place": (1,)}),
    "proc": (7, InvalidIndex, {"given": 7}),
    "value": (("name", "q"), InvalidProgram, {"place": (1,)}),
    "path": ((9,), InvalidProgram, {"place": (9,)}),
}


def right_value(call):
    return LESS if call is text.shown_condition else I


class Arguments(unittest.TestCase):
    def test_signatures(self):
        for call, names in SIGNATURES.items():
            told = inspect.signature(call).parameters.values()
            self.assertEqual(tuple(one.name for one in told), names)
            for one in told:
                self.assertIs(one.kind, inspect.Parameter.POSITIONAL_OR_KEYWORD)
                self.assertIs(one.default, inspect.Parameter.empty)

    def test_by_name_as_by_position(self):
        for call, names in SIGNATURES.items():
            given = {name: RIGHT.get(name, right_value(call)) for name in names}
            backwards = {name: given[name] for name in reversed(names)}
            self.assertEqual(call(**backwards), call(*[given[name] for name in names]))

    def test_the_first_wrong_argument_is_refused(self):
        for call, names in SIGNATURES.items():
            if names == ("value",):
                continue
            for wrong in range(1, 2 ** len(names)):
                given = {}
                first = None
                for at, name in enumerate(names):
                    given[name] = RIGHT.get(name, right_value(call))
                    if wrong >> at & 1:
                        given[name] = ("not", I) if call is text.shown_condition and name == "value" else WRONG[name][0]
                        first = name if first is None else first
                _, error, told = WRONG[first]
                refused(self, error, told, call, *[given[name] for name in names])
                refused(self, error, told, call, **{name: given[name] for name in reversed(names)})

    def test_equal_calls_return_equal_results(self):
        for call, names in SIGNATURES.items():
            given = [RIGHT.get(name, right_value(call)) for name in names]
            self.assertEqual(call(*given), call(*given))
        for call in (text.show, text.lines_of, trees.statement_count, trees.marks_of, trees.wrong_in):
            self.assertEqual(call(RICH), call(RICH))

    def test_what_is_returned_is_made_of_tuples(self):
        def has_no_lists(value):
            return not isinstance(value, list) and (
                not isinstance(value, tuple) or all(has_no_lists(inner) for inner in value))

        for value in (
            text.tokens("num a"), text.read(text.show(RICH)), text.lines_of(RICH), trees.numbers_of(RICH, 0),
            trees.rows_of(RICH, 0), trees.marks_of(RICH), trees.part_at(RICH, (1,)), trees.wrong_in(()),
        ):
            self.assertIsInstance(value, tuple)
            self.assertTrue(has_no_lists(value))

    def test_lists_are_not_changed(self):
        given = [[("a", ("num",))], [["p", [], [], []]]]
        self.assertEqual(trees.wrong_in(given), ())
        self.assertEqual(trees.wrong_in((given[0], ())), (0,))
        self.assertEqual(trees.wrong_in(((), given[1])), (1,))
        self.assertEqual(given, [[("a", ("num",))], [["p", [], [], []]]])


class Values(unittest.TestCase):
    """Values whose own comparisons tell nothing."""

    class Alike:
        def __eq__(self, other):
            return True

        def __hash__(self):
            return 0

    class Unasked:
        __hash__ = None

        def __eq__(self, other):
            raise RuntimeError("was compared")

        def __len__(self):
            raise RuntimeError("was measured")

    def test_odd_values(self):
        for odd in (self.Alike(), self.Unasked()):
            self.assertEqual(trees.wrong_in(odd), ())
            self.assertEqual(trees.wrong_in((odd, ())), (0,))
            self.assertEqual(trees.wrong_in(((), odd)), (1,))
            self.assertEqual(trees.wrong_in((((odd, ("num",)),), ())), (0, 0, 0))
            self.assertEqual(trees.wrong_in(((("a", odd),), ())), (0, 0, 1))
            self.assertEqual(trees.wrong_in(((("a", (odd,)),), ())), (0, 0, 1))
            self.assertEqual(trees.wrong_in(((("a", ("word", odd)),), ())), (0, 0, 1))
            self.assertEqual(trees.wrong_in(((), (("p", odd, (), ()),))), (1, 0, 1))
            at = (1, 0, 3, 0)
            for statement, path in (
                (odd, ()), ((odd, "i", I), ()), (("set", odd, I), (1,)), (("set", "i", odd), (2,)),
                (("set", "i", (odd, 1)), (2,)), (("give", ("number", odd)), (1, 1)), (("give", ("name", odd)), (1, 1)),
                (("ask", "i", odd, 1), (2,)), (("ask", "i", 1, odd), (3,)), (("call", odd, "one", (I,)), (1,)),
                (("call", None, odd, (I,)), (2,)), (("call", None, "one", odd), (3,)), (("check", odd), (1,)),
                (("check", (odd, I, I)), (1,)), (("while", LESS, odd), (2,)),
            ):
                self.assertEqual(trees.wrong_in(program_of(statement)), at + path)
            for path in (odd, (odd,), (1, odd)):
                with self.assertRaises(InvalidProgram) as caught:
                    trees.part_at(RICH, path)
                self.assertIs(caught.exception.place, path)
            with self.assertRaises(InvalidIndex) as caught:
                trees.numbers_of(RICH, odd)
            self.assertIs(caught.exception.given, odd)
            with self.assertRaises(InvalidText):
                text.read(odd)


if __name__ == "__main__":
    unittest.main()
