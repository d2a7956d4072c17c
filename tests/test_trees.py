"""[A2], [A4] and the heading soundlooks/trees.py: parts, counts, names and marks of programs."""

import unittest

from soundlooks.errors import InvalidIndex, InvalidProgram
from soundlooks.trees import marks_of, numbers_of, part_at, rows_of, statement_count
from tests.helper import I, LESS, NUM, ONE, RICH, WORD, part, paths_in, program_of, refused

NO_PATHS = (
    None, True, 0, "", "ab", [], [1, 0], {}, (2,), (-1,), (0, 3), (0, -1), (1, 2), (1, 0, 4), (1, 0, 3, 7),
    (True,), (False,), (1, False), (1, True, 0), (None,), ("0",), ((),), ([],), (1, 0, 0, 0), (0, 0, 0, 0),
    (1, 0, 3, 0, 0, 0), (1, 0, 3, 0, 2, 2, 1, 0), (1, 0, 3, 3, 2, 0), (1, 0, 3, 2, 2, 0), (1, 0, 1, 0), (1 << 300,),
    (1, 0, 3, 0, 2, 1, 0, -7),
)


class PartAt(unittest.TestCase):
    def test_each_path(self):
        for path in paths_in(RICH):
            self.assertEqual(part_at(RICH, path), part(RICH, path))

    def test_told_ones(self):
        self.assertEqual(part_at(RICH, ()), RICH)
        self.assertEqual(part_at(RICH, (1, 0, 3, 2)), ("ask", "g", None, None))
        self.assertEqual(part_at(RICH, (1, 0, 0)), "main")
        self.assertEqual(part_at(RICH, (1, 0, 3, 3, 2)), -3)
        self.assertIsNone(part_at(RICH, (1, 0, 3, 2, 3)))

    def test_no_paths(self):
        for path in NO_PATHS:
            refused(self, InvalidProgram, {"place": path}, part_at, RICH, path)
            refused(self, InvalidProgram, {"place": path}, part_at, path=path, program=RICH)

    def test_one_step_beyond_each_path(self):
        for path in paths_in(RICH):
            value = part(RICH, path)
            many = len(value) if isinstance(value, tuple) else 0
            for index in (many, -1, -many, True, "0", None):
                if index != 0 or many == 0:
                    refused(self, InvalidProgram, {"place": path + (index,)}, part_at, RICH, path + (index,))


class StatementCount(unittest.TestCase):
    def test_counts(self):
        self.assertEqual(statement_count(program_of()), 0)
        self.assertEqual(statement_count(program_of(("give", ONE))), 1)
        self.assertEqual(statement_count(RICH), 12)
        inner = ("if", LESS, (("while", LESS, (("give", ONE),) * 3),), (("give", ONE),) * 2)
        self.assertEqual(statement_count(program_of(inner, inner)), 14)
        self.assertEqual(statement_count(program_of(*(("give", ONE),) * 60)), 60)


class InSight(unittest.TestCase):
    def test_numbers_and_rows_in_order(self):
        self.assertEqual(numbers_of(RICH, 0), (("g", NUM), ("w", ("word", 4)), ("i", NUM)))
        self.assertEqual(rows_of(RICH, 0), (("r", ("row", 3)), ("s", ("row", 8))))
        self.assertEqual(
            numbers_of(RICH, 1), (("g", NUM), ("w", ("word", 4)), ("a", NUM), ("b", WORD), ("c", ("word", 1))))
        self.assertEqual(rows_of(RICH, 1), (("r", ("row", 3)), ("d", ("row", 1))))
        self.assertEqual(numbers_of(program_of(), 1), (("x", NUM),))
        self.assertEqual(rows_of(program_of(), 1), ())

    def test_no_index(self):
        for call in (numbers_of, rows_of):
            for given in (2, -1, True, False, None, "0", (0,), [0], 1 << 99):
                refused(self, InvalidIndex, {"given": given}, call, RICH, given)
                refused(self, InvalidIndex, {"given": given}, call, proc=given, program=RICH)


class Marks(unittest.TestCase):
    def test_none_but_0(self):
        self.assertEqual(marks_of(((), (("p", (), (("i", NUM),), ()),))), (0,))
        self.assertEqual(marks_of(((), (("p", (), (), (("give", ("number", 0)),)),))), (-1, 0, 1))

    def test_kinds_have_no_neighbours(self):
        self.assertEqual(marks_of(((("a", ("word", 4)),), (("p", (), (), ()),))), (-15, 0, 15))
        self.assertEqual(marks_of(((("a", ("row", 8)),), (("p", (), (), ()),))), (-7, 0, 7))
        self.assertEqual(marks_of(((("a", ("row", 1)), ("b", ("word", 1))), (("p", (), (), ()),))), (-1, 0, 1))
        in_params = ((), (("p", (), (("a", ("word", 16)),), ()), ("q", (("b", ("word", 5)),), (("c", ("row", 3)),), ())))
        self.assertEqual(marks_of(in_params), (-65535, -31, -2, 0, 2, 31, 65535))

    def test_bounds(self):
        def asked(low, high):
            return ((), (("p", (), (("i", NUM),), (("ask", "i", low, high),)),))

        self.assertEqual(marks_of(asked(None, None)), (0,))
        self.assertEqual(marks_of(asked(10, None)), (-11, -10, -9, 0, 9, 10, 11))
        self.assertEqual(marks_of(asked(None, -10)), (-11, -10, -9, 0, 9, 10, 11))
        self.assertEqual(marks_of(asked(-20, 10)), (-21, -20, -19, -11, -10, -9, 0, 9, 10, 11, 19, 20, 21))

    def test_numbers_wherever_they_stand(self):
        def number(n):
            return ("number", n)

        body = (
            ("set", "i", ("+", number(10), ("minus", number(20)))),
            ("put", "r", number(30), ("cell", "r", number(40))),
            ("if", ("and", ("<", number(50), I), ("not", ("==", I, number(60)))), (("give", number(70)),), ()),
            ("if", ("<=", I, I), (), (("while", ("!=", number(80), I), (("give", number(90)),)),)),
            ("call", "i", "q", (number(100),)),
            ("check", ("or", ("<", I, I), ("<", I, number(110)))),
        )
        program = ((), (("p", (), (("i", NUM), ("r", ("row", 1))), body), ("q", (("x", NUM),), (), (
            ("give", number(120)),))))
        told = [m + by for m in range(10, 121, 10) for by in (-1, 0, 1)]
        self.assertEqual(marks_of(program), tuple([-m for m in reversed(told)] + [0] + told))

    def test_names_are_no_numbers(self):
        program = ((("number", ("row", 3)),), (("number", (), (), (("put", "number", ("number", 5), ("number", 5)),)),))
        self.assertEqual(marks_of(program), (-6, -5, -4, -2, 0, 2, 4, 5, 6))

    def test_great_numbers(self):
        n = 10 ** 40 - 1
        self.assertEqual(
            marks_of(((), (("p", (), (), (("give", ("number", n)),)),))), (-n - 1, -n, -n + 1, 0, n - 1, n, n + 1))

    def test_each_once_and_ascending(self):
        marks = marks_of(RICH)
        self.assertEqual(marks, tuple(sorted(set(marks))))
        self.assertEqual(
            marks, tuple(sorted({s * m for m in (0, 1, 2, 6, 7, 8, 19, 20, 21, 3, 4, 29, 30, 31, 15, 65535)
                                 for s in (1, -1)})))


if __name__ == "__main__":
    unittest.main()
