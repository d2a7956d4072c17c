"""The sessions of the interface, as they stand there; each goes on from the one before it."""

import unittest

from soundlooks import errors

TEXT = r'''
>>> from soundlooks.text import lines_of, read, show, tokens
>>> small = "num best; proc main() { num i; i = 0; while (i < 3) { i = i + 1; } check (i == 3); }"
>>> tree = read(small)
>>> tree
((('best', ('num',)),), (('main', (), (('i', ('num',)),), (('set', 'i', ('number', 0)), ('while', ('<', ('name', 'i'), ('number', 3)), (('set', 'i', ('+', ('name', 'i'), ('number', 1))),)), ('check', ('==', ('name', 'i'), ('number', 3))))),))
>>> show(tree).splitlines()
['num best;', 'proc main() {', '  num i;', '  i = 0;', '  while (i < 3) {', '    i = i + 1;', '  }', '  check (i == 3);', '}']
>>> [read(show(tree)) == tree, lines_of(tree), tokens("x <=# y")]
[True, (((1, 0, 3, 0), 4), ((1, 0, 3, 1), 5), ((1, 0, 3, 1, 2, 0), 6), ((1, 0, 3, 2), 8)), (('x', 1, 1), ('<=', 1, 3))]
>>> show(read("proc p(){num a;a=1-(2-a)-3*(a+1);check([a<1 or 2<a]and not[a==5 and a<9]);ask a from-3 to any;}")).splitlines()[2:5]
['  a = 1 - (2 - a) - 3 * (a + 1);', '  check ([a < 1 or 2 < a] and not [a == 5 and a < 9]);', '  ask a from -3 to any;']
>>> read("proc p() {\n  x = 1 + ;\n}")
raises InvalidText(line=2, column=11)
>>> read("proc p() { q = 1; }")
raises InvalidProgram(place=(1, 0, 3, 0, 1))
>>> read("proc p() { give 007; }")
raises InvalidText(line=1, column=18)
'''

TREES = r'''
>>> from soundlooks.trees import is_program, marks_of, numbers_of, part_at, rows_of, statement_count, wrong_in
>>> [is_program(tree), wrong_in(tree), wrong_in(((), ())), wrong_in(((("if", ("num",)),), ())), statement_count(tree), numbers_of(tree, 0), rows_of(tree, 0), marks_of(tree)]
[True, None, (1,), (0, 0, 0), 4, (('best', ('num',)), ('i', ('num',))), (), (-4, -3, -2, -1, 0, 1, 2, 3, 4)]
>>> [part_at(tree, (1, 0, 3, 0)), part_at(tree, ()) == tree]
[('set', 'i', ('number', 0)), True]
'''

MACHINE = r'''
>>> from soundlooks.graphs import graph_of, numbers_at
>>> from soundlooks.machine import first_state, kind_of, moved, run
>>> from soundlooks.plain import plain_run
>>> n, i, one = ("name", "n"), ("name", "i"), ("number", 1)
>>> up = ("set", "i", ("+", i, one))
>>> count = ((("n", ("num",)),), (("main", (), (("i", ("num",)),), (("ask", "n", 0, 10), ("while", ("<", i, n), (up,)), ("give", i))),))
>>> graph_of(count, 0) == (6, ((0, ("ask", "n", 0, 10), 1), (1, ("guard", "<", i, n), 2), (1, ("guard", "<=", n, i), 3), (2, up, 1), (3, ("give", i), 5), (4, ("give", ("number", 0)), 5)), ())
True
>>> [first_state(count), kind_of(count, first_state(count)), moved(count, first_state(count), 2), numbers_at(count, 0, 5)]
[(((0, 0, (0,)),), (0,)), ('waits', (0, 10)), (((0, 1, (0,)),), (2,)), (('n', ('num',)), ('given', ('num',)))]
>>> [run(count, (2,), 300), plain_run(count, (2,), 300), run(count, (2,), 3)[0], run(count, (11,), 9)[:4]]
[('done', 2, 7, 1, (((0, 5, (2,)),), (2,))), ('done', 2, 7, 1, (2,)), 'goes', ('waits', (0, 10), 0, 0)]
'''

STRETCHES = r'''
>>> from soundlooks.stretches import is_stretch, stretch_back, stretch_guarded, stretch_holds, stretch_joined, stretch_met, stretch_modulo, stretch_product, stretch_quotient, stretch_rank, stretch_sum, stretch_widened, stretch_within, stretch_wrapped
>>> [is_stretch((None, 3)), is_stretch((4, 3)), is_stretch(()), is_stretch((1, True)), stretch_holds((None, 3), -7), stretch_holds((), 0), stretch_within((2, 2), (0, None)), stretch_within((None, 0), (-9, 0))]
[True, False, True, False, True, False, True, False]
>>> [stretch_joined((0, 2), (5, None)), stretch_joined((), (1, 1)), stretch_met((0, 5), (3, None)), stretch_met((0, 2), (3, 4)), stretch_back((2, None)), stretch_sum((1, 2), (None, 10))]
[(0, None), (1, 1), (3, 5), (), (None, -2), (None, 12)]
>>> [stretch_product((-2, 3), (-5, 4)), stretch_product((0, 0), (None, None)), stretch_product((0, 2), (1, None)), stretch_quotient((-7, 9), (2, 3)), stretch_quotient((5, None), (0, None)), stretch_quotient((1, 6), (-2, 2)), stretch_quotient((1, 6), (0, 0))]
[(-15, 12), (0, 0), (0, None), (-4, 4), (0, None), (-6, 6), ()]
>>> [stretch_modulo((7, 9), (5, 5)), stretch_modulo((8, 11), (5, 5)), stretch_modulo((2, 3), (4, 9)), stretch_modulo((2, 30), (4, 9)), stretch_modulo((-3, 30), (4, None)), stretch_modulo((1, 2), (-5, -5)), stretch_wrapped((250, 260), 8), stretch_wrapped((256, 260), 8)]
[(2, 4), (0, 4), (2, 3), (0, 8), (0, None), (-4, -3), (0, 255), (0, 4)]
>>> [stretch_guarded("<", (0, 9), (None, 5)), stretch_guarded("<=", (6, 9), (None, 5)), stretch_guarded("==", (0, 9), (4, None)), stretch_guarded("!=", (0, 9), (9, 9)), stretch_guarded("!=", (4, 4), (4, 4)), stretch_guarded("!=", (0, 9), (5, 5))]
[((0, 4), (1, 5)), ((), ()), ((4, 9), (4, 9)), ((0, 8), (9, 9)), ((), ()), ((0, 9), (5, 5))]
>>> [stretch_widened((0, 10, 99), (0, 3), (0, 4)), stretch_widened((0, 10, 99), (0, 10), (-1, 200)), stretch_widened((0, 10), (2, 3), (3, 3)), stretch_widened((0, 10), (), (5, 6)), stretch_rank((0, 10, 99), ()), stretch_rank((0, 10, 99), (0, 3)), stretch_rank((0, 10, 99), (0, 10)), stretch_rank((0, 10, 99), (None, None))]
[(0, 10), (None, None), (2, 3), (5, 6), 9, 4, 3, 0]
'''

RESTS = r'''
>>> from soundlooks.rests import is_rest, rest_back, rest_guarded, rest_holds, rest_joined, rest_met, rest_modulo, rest_product, rest_quotient, rest_rank, rest_sum, rest_within, rest_wrapped, settled
>>> [is_rest((-3, 0)), is_rest((1, 11)), is_rest((4, 4)), is_rest((1, 4)), rest_holds((1, 4), -3), rest_within((5, 0), (1, 4)), rest_within((1, 4), (1, 8)), rest_within((), (5, 0))]
[True, False, False, True, True, True, False, True]
>>> [rest_joined((3, 0), (15, 0)), rest_joined((1, 4), (3, 8)), rest_joined((3, 0), (25, 0)), rest_met((1, 4), (2, 6)), rest_met((1, 4), (3, 6)), rest_met((9, 0), (1, 4)), rest_back((1, 4))]
[(3, 12), (1, 2), (1, 2), (), (9, 12), (9, 0), (3, 4)]
>>> [rest_sum((1, 4), (2, 6)), rest_product((2, 4), (3, 6)), rest_product((0, 0), (0, 1)), rest_product((2, 0), (1, 4)), rest_quotient((4, 12), (4, 0)), rest_quotient((4, 12), (5, 0)), rest_quotient((7, 0), (-2, 0)), rest_quotient((0, 0), (0, 1))]
[(1, 2), (6, 12), (0, 0), (2, 8), (1, 3), (0, 1), (-4, 0), (0, 0)]
>>> [rest_modulo((5, 12), (4, 0)), rest_modulo((5, 12), (9, 0)), rest_modulo((6, 12), (2, 4)), rest_wrapped((3, 64), 4), rest_wrapped((5, 12), 8), rest_guarded("==", (1, 4), (0, 3)), rest_guarded("!=", (2, 0), (2, 0)), rest_guarded("<", (1, 4), (0, 3))]
[(1, 0), (2, 3), (0, 2), (3, 0), (1, 4), ((9, 12), (9, 12)), ((), ()), ((1, 4), (0, 3))]
>>> [rest_rank(()), rest_rank((8, 0)), rest_rank((1, 12)), rest_rank((0, 1)), settled((0, 9), (1, 4)), settled((2, 4), (1, 4)), settled((2, 7), (1, 4)), settled((None, 7), (3, 0))]
[12, 11, 3, 0, ((1, 9), (1, 4)), ((), ()), ((5, 5), (5, 0)), ((3, 3), (3, 0))]
'''

DIFFERENCES = r'''
>>> from soundlooks.differences import closed_differences, differences_forgotten, differences_guarded, differences_joined, differences_kept, differences_rank, differences_set, differences_unlike, differences_widened, differences_within, free_differences, ring_of, some_values, stretch_between
>>> some, tight = ((0, 0, None), (5, 0, None), (None, -1, 0)), ((0, -5, -4), (5, 0, 1), (4, -1, 0))
>>> [closed_differences(2, some), differences_guarded(2, some, 0, 2, -4) == tight, differences_guarded(2, some, 0, 2, -5), len(ring_of(2, ((0, 0, -5), (5, 0, None), (None, -1, 0)))), some_values(2, tight)]
[((0, 0, None), (5, 0, None), (4, -1, 0)), True, None, 3, (5, 4)]
>>> [differences_set(2, some, 2, 1, 2), differences_set(2, some, 1, 1, -3), differences_set(2, some, 1, 0, 7)]
[((0, 0, -2), (5, 0, -2), (7, 2, 0)), ((0, 3, None), (2, 0, None), (4, 2, 0)), ((0, -7, None), (7, 0, None), (4, -3, 0))]
>>> [differences_forgotten(2, some, 1), differences_kept(2, some, (2, None)), differences_unlike(2, some, 1, 0, 5), stretch_between(2, some, 1, 2), stretch_between(2, some, 2, 0)]
[((0, None, None), (None, 0, None), (4, None, 0)), ((0, None, None), (4, 0, None), (None, None, 0)), ((0, 0, None), (4, 0, None), (3, -1, 0)), (1, None), (None, 4)]
>>> [differences_joined(2, some, ((0, -7, 0), (7, 0, 7), (0, -7, 0))), differences_within(2, some, free_differences(2)), differences_within(2, free_differences(2), some), differences_within(1, None, ((0, 0), (0, 0)))]
[((0, 0, None), (7, 0, None), (4, -1, 0)), True, False, True]
>>> point, marks = ((0, 0), (0, 0)), (0, 9, 10)
>>> [differences_widened(1, marks, point, ((0, 0), (1, 0))), differences_widened(1, marks, ((0, 0), (9, 0)), ((0, 0), (11, 0))), differences_rank(1, marks, point), differences_rank(1, marks, ((0, 0), (9, 0))), differences_rank(1, marks, None)]
[((0, 0), (9, 0)), ((0, 0), (None, 0)), 6, 5, 9]
>>> differences_guarded(2, some, 3, 1, 0)
raises InvalidSlot(given=3)
'''

EQUATIONS = r'''
>>> from soundlooks.equations import differences_of, equations_forgotten, equations_from, equations_guarded, equations_joined, equations_keep, equations_kept, equations_met, equations_of, equations_rank, equations_set, equations_within, form_value
>>> line = ((1, 2, 3),)
>>> [equations_from(2, ((2, 2, 6), (1, -1, 1))), equations_from(2, ((-2, -4, -6), (0, 0, 0))), equations_from(2, ((1, 1, 1), (2, 2, 3)))]
[((1, 0, 2), (0, 1, 1)), ((1, 2, 3),), None]
>>> [equations_joined(2, ((1, 0, 0), (0, 1, 0)), ((1, 0, 1), (0, 1, 2))), equations_joined(2, line, ((1, 0, 0), (0, 1, 0))), equations_met(2, line, ((1, -1, 0),)), equations_within(2, ((1, 0, 1), (0, 1, 1)), line)]
[((2, -1, 0),), (), ((1, 0, 1), (0, 1, 1)), True]
>>> [equations_set(2, line, 1, (1, 0, 1)), equations_set(2, line, 1, (0, 2, 0)), equations_forgotten(2, line, 1), equations_guarded(2, line, (1, -1, 0)), equations_guarded(2, ((1, 0, 2),), (2, 0, -3)), equations_kept(2, line, (None, 2, 1))]
[((1, 2, 4),), ((1, -2, 0),), (), ((1, 0, 1), (0, 1, 1)), None, ((0, 2, 1, 3),)]
>>> [form_value(2, line, (2, 4, 1)), form_value(2, line, (1, 0, 0)), form_value(2, ((2, 0, 1),), (1, 0, 0)), equations_keep(2, line, (3, 6, 9)), equations_rank(2, line), equations_rank(2, None)]
[(7, 1), None, (1, 2), True, 1, 3]
>>> [differences_of(2, ((1, -1, 3),)), differences_of(2, ((2, -2, 1),)), equations_of(2, tight)]
[((0, None, None), (None, 0, 3), (None, -3, 0)), None, ((1, 0, 5), (0, 1, 4))]
'''

LOOKS = r'''
>>> from soundlooks.looks import end_sight, exchanged, free_look, is_look, look_holds, look_joined, look_met, look_rank, look_widened, look_within, sight_of
>>> n, i, one, num = ("name", "n"), ("name", "i"), ("number", 1), ("num",)
>>> sight = ((("n", num), ("i", num)), ())
>>> begun = (((0, 10), (0, 0)), ((0, 1), (0, 0)), ((0, 0, 0), (10, 0, 10), (0, 0, 0)), ((0, 1, 0),), ())
>>> later = (((1, 10), (1, 1)), ((0, 1), (1, 0)), ((0, -1, -1), (10, 0, 9), (1, 0, 0)), ((0, 1, 1),), ())
>>> both = (((0, 10), (0, 1)), ((0, 1), (0, 1)), ((0, 0, 0), (10, 0, 10), (1, 0, 0)), (), ())
>>> [is_look(sight, begun), is_look(sight, begun[:4]), is_look(sight, None), look_holds(sight, begun, (3, 0), ()), look_holds(sight, later, (0, 1), ()), look_within(sight, later, both), look_within(sight, both, later)]
[True, False, True, True, False, True, False]
>>> [look_joined(sight, begun, later) == both, look_met(sight, begun, later), look_joined(sight, None, later) == later, free_look(((("n", num),), (("r", ("row", 2)),)))]
[True, None, True, (((None, None),), ((0, 1),), ((0, None), (None, 0)), (), (((None, None), (0, 1)),))]
>>> wide = look_widened(sight, (0, 10), begun, later)
>>> [wide, look_rank(sight, (0, 10), begun), look_rank(sight, (0, 10), wide), look_rank(sight, (0, 10), None)]
[(((0, 10), (0, 10)), ((0, 1), (0, 1)), ((0, 0, 0), (10, 0, 10), (10, 0, 0)), (), ()), 27, 13, 67]
>>> exchanged(sight, (((0, 9), (None, None)), ((1, 4), (0, 1)), ((0, None, None), (None, 0, None), (None, None, 0)), ((1, -2, 1),), ()))
(((1, 9), (0, 4)), ((1, 4), (0, 1)), ((0, -1, 0), (9, 0, 9), (4, 3, 0)), ((1, -2, 1),), ())
'''

EFFECTS = r'''
>>> from soundlooks.effects import effect_of, effect_of_give, faults_in, first_look, form_of, look_behind, worth_of
>>> [form_of(sight, ("-", ("*", ("number", 2), i), ("number", 3))), form_of(sight, ("*", n, i)), worth_of(sight, later, ("-", n, i)), worth_of(sight, begun, ("*", n, ("number", 4))), faults_in(sight, begun, ("div", n, i)), faults_in(sight, later, ("div", n, i))]
[(0, 2, -3), None, ((0, 9), (0, 1)), ((0, 40), (0, 4)), ('zero',), ()]
>>> entered = effect_of(sight, begun, ("guard", "<", i, n))
>>> [entered, effect_of(sight, entered, ("set", "i", ("+", i, one))) == later]
[(((1, 10), (0, 0)), ((0, 1), (0, 0)), ((0, -1, 0), (10, 0, 10), (0, -1, 0)), ((0, 1, 0),), ()), True]
>>> [effect_of(sight, begun, ("guard", "<=", n, i)), effect_of(sight, begun, ("guard", "<", n, i)), effect_of(sight, begun, ("ask", "n", None, 4))]
[(((0, 0), (0, 0)), ((0, 0), (0, 0)), ((0, 0, 0), (0, 0, 0), (0, 0, 0)), ((0, 1, 0),), ()), None, (((None, 4), (0, 0)), ((0, 1), (0, 0)), ((0, None, 0), (4, 0, 4), (0, None, 0)), ((0, 1, 0),), ())]
>>> boxes, some = ((("i", num),), (("r", ("row", 2)),)), (((0, 9),), ((0, 1),), ((0, 0), (9, 0)), (), (((0, 0), (0, 0)),))
>>> [effect_of(boxes, some, ("put", "r", i, ("number", 5))), faults_in(boxes, some, ("cell", "r", i))]
[(((0, 1),), ((0, 1),), ((0, 0), (1, 0)), (), (((0, 5), (0, 5)),)), ('cell',)]
>>> a = ("name", "a")
>>> two = ((("n", num),), (("main", (), (), (("call", "n", "twice", (("number", 3),)),)), ("twice", (("a", num),), (), (("give", ("+", a, a)),))))
>>> zero = (((0, 0),), ((0, 0),), ((0, 0), (0, 0)), ((1, 0),), ())
>>> called = first_look(two, 0, 1, zero, (("number", 3),))
>>> ended = effect_of_give(two, 1, called, ("+", a, a))
>>> [called, ended, look_behind(two, 0, "n", zero, ended)]
[(((0, 0), (3, 3)), ((0, 0), (3, 0)), ((0, 0, -3), (0, 0, -3), (3, 3, 0)), ((1, 0, 0), (0, 1, 3)), ()), (((0, 0), (6, 6)), ((0, 0), (6, 0)), ((0, 0, -6), (0, 0, -6), (6, 6, 0)), ((1, 0, 0), (0, 1, 6)), ()), (((6, 6),), ((6, 0),), ((0, -6), (6, 0)), ((1, 6),), ())]
'''

ALARMS = r'''
>>> from soundlooks.alarms import alarms, answers, bearing_run, faults_at, found, is_whole_search, leaving_run, tried_numbers
>>> from soundlooks.tables import analysed
>>> num, x, y = ("num",), ("name", "x"), ("name", "y")
>>> half = ((), (("main", (), (("x", num),), (("ask", "x", 0, 3), ("set", "x", ("div", ("number", 6), x)))),))
>>> table = analysed(half, ())
>>> [faults_at(half, 0, 1, table[0][1]), faults_at(half, 0, 1, None), alarms(half, table), answers(half, table, 100)]
[('zero',), (), ((0, 1, 'zero'),), ((0, 1, 'zero', ('run', (0,), 1)),)]
>>> [len(found(half, 100)), is_whole_search(half, 9), is_whole_search(half, 8), bearing_run(half, 0, 1, "zero", 1), leaving_run(half, 0, 2, None, 100)]
[9, True, False, None, ((1,), 2)]
>>> [found(half, 2), found(half, 100)[5][1:]]
[(((((0, 0, (0,)),), ()), (), 0), ((((0, 1, (0,)),), ()), (0,), 1)), ((1,), 2)]
>>> squares = ((), (("main", (), (("x", num), ("y", num)), (("ask", "x", 0, 3), ("set", "y", ("mod", ("*", x, x), ("number", 4))), ("set", "x", ("div", ("number", 6), ("-", y, ("number", 2)))))),))
>>> [answers(squares, analysed(squares, ()), 12), answers(squares, analysed(squares, ()), 11), tried_numbers(squares, 0, 3), tried_numbers(squares, 5, None), tried_numbers(squares, 0, 20)]
[((0, 2, 'zero', ('never',)),), ((0, 2, 'zero', ('open',)),), (0, 1, 2, 3), (5, 6, 7), (0, 1, 2, 3, 4, 5, 6, 7, 20)]
'''

CERTIFICATES = r'''
>>> from soundlooks.certificates import certify_look, certify_place, certify_program, certify_table
>>> from soundlooks.checker import accepts
>>> [certify_program(half, 100) == (("wrong", half, 0, 1, "zero"), ((0,), 1)), certify_place(half, 0, 1, 1), certify_look(half, 0, 2, None, 100) == (("leaves", half, 0, 2, None), ((1,), 2)), certify_look(half, 0, 1, table[0][1], 1)[1][0]]
[True, None, True, 'table']
>>> [certify_program(squares, 100) == (("never wrong", squares), ("states", 100)), certify_program(squares, 11), certify_place(squares, 0, 1, 1)[0][0], certify_table(half, ((None, None, None, None),))[1]]
[True, None, 'safe', (0, 0)]
>>> [accepts(("wrong", half, 0, 1, "zero"), ((0,), 1)), accepts(("wrong", half, 0, 1, "zero"), ((1,), 1)), accepts(("leaves", half, 0, 2, None), ((1, 1), 2)), accepts(("safe", squares, 0, 2), ("states", 12)), accepts(("safe", squares, 0, 2), ("table", analysed(squares, ()))), accepts(("closed", half, table), ()), accepts(("closed", half, table), None)]
[True, False, False, True, False, True, False]
>>> nought = (((0, 0),), ((0, 0),), ((0, 0), (0, 0)), ((1, 0),), ())
>>> some = (((None, None),), ((0, 1),), ((0, None), (None, 0)), (), ())
>>> told = lambda low, high: ((nought, (((low, high),), ((0, 1),), ((0, -low), (high, 0)), (), ()), some, nought),)
>>> dozen = ((), (("main", (), (("x", num),), (("ask", "x", 1, 6), ("set", "x", ("div", ("number", 12), x)))),))
>>> [accepts(("never wrong", dozen), ("table", told(1, 6))), accepts(("never wrong", dozen), ("table", told(0, 6))), accepts(("closed", dozen, told(0, 6)), ()), accepts(("not closed", dozen, told(2, 6)), (0, 1)), accepts(("closed", half, told(0, 3)), ()), accepts(("closed", half, told(1, 3)), ())]
[True, False, True, True, True, False]
'''

CONSOLE = r'''
>>> from soundlooks.console import Console
>>> desk = Console()
>>> [desk.say("show"), desk.say("put num best; proc main() { num i; while (i < 3) { i = i + 1; } }"), desk.say("run 100"), desk.say("drop other"), desk.say("add proc main() { }"), desk.say("undo"), desk.say("undo")]
[('no program',), ('2 statements',), ('done 0', 'best = 0'), ('no such line',), ('wrong at 1 1 0',), ('undone',), ('nothing to undo',)]
>>> [desk.say("put proc p( {"), desk.say("put proc p() { num x; ask x from 1 to 3; }"), desk.say("places p"), desk.say("run 9 4"), desk.say("run 1 2")]
[('bad text at 1 9',), ('1 statements',), ('0 at 3', '1 at 4', '2 at 4'), ('waits at 3', 'x = 0'), ('goes at 4', 'x = 2')]
'''


def steps_of(session):
    """The pairs of a line that is typed and what is shown for it, None for nothing."""
    found = []
    for line in session.strip().split("\n"):
        if line.startswith(">>> "):
            found.append([line[4:], None])
        else:
            found[-1][1] = line
    return found


class Sessions(unittest.TestCase):
    def test_sessions(self):
        names = {}
        for session in (TEXT, TREES, MACHINE, STRETCHES, RESTS, DIFFERENCES, EQUATIONS, LOOKS, EFFECTS,
                        ALARMS, CERTIFICATES, CONSOLE):
            for typed, shown in steps_of(session):
                self.step(names, typed, shown)

    def step(self, names, typed, shown):
        if shown is None:
            exec(typed, names)
        elif shown.startswith("raises "):
            expected = eval(shown[len("raises "):], dict(vars(errors)))
            with self.assertRaises(type(expected)) as caught:
                eval(typed, names)
            self.assertEqual(vars(caught.exception), vars(expected))
        else:
            self.assertEqual(repr(eval(typed, names)), shown)


if __name__ == "__main__":
    unittest.main()
