"""The sessions of the interface, as they stand there; each goes on from the one before it."""

import unittest

from soundlooks import errors

TEXT = r'''
>>> from soundlooks.text import lines_of, read, show, tokens
>>> small = "num best; proc main() { num i; i = 0; while (i < 3) { i = i + 1; } check (i == 3); }"
>>> tree = read(small)
>>> tree
((('best', ('num',)),), (('main', (), (('i', ('num',)),), (('set', 'i', ('number', 0)), ('while', ('<', ('name', 'i'), ('number', 3)), (('set', 'i', ('+', ('name', 'i'), ('number', 1))),)), ('check', ('==', ('name', 'i'), ('number', 3))))),))
>>> show(tree).splitlines()
['num best;', 'proc main() {', '  num i;', '  i = 0;', '  while (i < 3) {', '    i = i + 1;', '  }', '  check (i == 3);', '}']
>>> [read(show(tree)) == tree, lines_of(tree), tokens("x <=# y")]
[True, (((1, 0, 3, 0), 4), ((1, 0, 3, 1), 5), ((1, 0, 3, 1, 2, 0), 6), ((1, 0, 3, 2), 8)), (('x', 1, 1), ('<=', 1, 3))]
>>> show(read("proc p(){num a;a=1-(2-a)-3*(a+1);check([a<1 or 2<a]and not[a==5 and a<9]);ask a from-3 to any;}")).splitlines()[2:5]
['  a = 1 - (2 - a) - 3 * (a + 1);', '  check ([a < 1 or 2 < a] and not [a == 5 and a < 9]);', '  ask a from -3 to any;']
>>> read("proc p() {\n  x = 1 + ;\n}")
raises InvalidText(line=2, column=11)
>>> read("proc p() { q = 1; }")
raises InvalidProgram(place=(1, 0, 3, 0, 1))
>>> read("proc p() { give 007; }")
raises InvalidText(line=1, column=18)
'''

TREES = r'''
>>> from soundlooks.trees import is_program, marks_of, numbers_of, part_at, rows_of, statement_count, wrong_in
>>> [is_program(tree), wrong_in(tree), wrong_in(((), ())), wrong_in(((("if", ("num",)),), ())), statement_count(tree), numbers_of(tree, 0), rows_of(tree, 0), marks_of(tree)]
[True, None, (1,), (0, 0, 0), 4, (('best', ('num',)), ('i', ('num',))), (), (-4, -3, -2, -1, 0, 1, 2, 3, 4)]
>>> [part_at(tree, (1, 0, 3, 0)), part_at(tree, ()) == tree]
[('set', 'i', ('number', 0)), True]
'''

MACHINE = r'''
>>> from soundlooks.graphs import graph_of, numbers_at
>>> from soundlooks.machine import first_state, kind_of, moved, run
>>> from soundlooks.plain import plain_run
>>> n, i, one = ("name", "n"), ("name", "i"), ("number", 1)
>>> up = ("set", "i", ("+", i, one))
>>> count = ((("n", ("num",)),), (("main", (), (("i", ("num",)),), (("ask", "n", 0, 10), ("while", ("<", i, n), (up,)), ("give", i))),))
>>> graph_of(count, 0) == (6, ((0, ("ask", "n", 0, 10), 1), (1, ("guard", "<", i, n), 2), (1, ("guard", "<=", n, i), 3), (2, up, 1), (3, ("give", i), 5), (4, ("give", ("number", 0)), 5)), ())
True
>>> [first_state(count), kind_of(count, first_state(count)), moved(count, first_state(count), 2), numbers_at(count, 0, 5)]
[(((0, 0, (0,)),), (0,)), ('waits', (0, 10)), (((0, 1, (0,)),), (2,)), (('n', ('num',)), ('given', ('num',)))]
>>> [run(count, (2,), 300), plain_run(count, (2,), 300), run(count, (2,), 3)[0], run(count, (11,), 9)[:4]]
[('done', 2, 7, 1, (((0, 5, (2,)),), (2,))), ('done', 2, 7, 1, (2,)), 'goes', ('waits', (0, 10), 0, 0)]
'''


def steps_of(session):
    """The pairs of a line that is typed and what is shown for it, None for nothing."""
    found = []
    for line in session.strip().split("\n"):
        if line.startswith(">>> "):
            found.append([line[4:], None])
        else:
            found[-1][1] = line
    return found


class Sessions(unittest.TestCase):
    def test_sessions(self):
        names = {}
        for session in (TEXT, TREES, MACHINE):
            for typed, shown in steps_of(session):
                self.step(names, typed, shown)

    def step(self, names, typed, shown):
        if shown is None:
            exec(typed, names)
        elif shown.startswith("raises "):
            expected = eval(shown[len("raises "):], dict(vars(errors)))
            with self.assertRaises(type(expected)) as caught:
                eval(typed, names)
            self.assertEqual(vars(caught.exception), vars(expected))
        else:
            self.assertEqual(repr(eval(typed, names)), shown)


if __name__ == "__main__":
    unittest.main()
