"""[E5] to [E9] once more: all that steps, gives and calls bring forth from all small values that looks hold."""

import itertools
import unittest

from soundlooks import effects, looks
from soundlooks.text import read
from tests.helper import NUM, ONE
from tests.test_effects import StepDrawer, brought, reckoned, told_values
from tests.test_looks import is_held

X, W, Y = ("name", "x"), ("name", "w"), ("name", "y")
ZERO, TWO, THREE = ("number", 0), ("number", 2), ("number", 3)
SIGHT = ((("x", NUM), ("w", ("word", 2))), (("r", ("row", 2)),))
SINGLE = ((("x", NUM), ("w", ("word", 2))), (("r", ("row", 1)),))
NUMBERS = tuple(itertools.product(range(-3, 5), range(0, 4)))
EXPRESSIONS = (
    ZERO, X, W, ("minus", X), ("+", X, ONE), ("-", W, THREE), ("-", X, W), ("-", W, X), ("+", X, W), ("*", TWO, X), ("*", X, W), ("*", X, X), ("-", X, X),
    ("div", X, TWO), ("div", X, W), ("mod", W, X), ("mod", X, ("minus", THREE)), ("div", ("number", 7), ("-", X, ONE)), ("mod", ("*", THREE, X), THREE),
    ("cell", "r", ZERO), ("cell", "r", X), ("cell", "r", ("-", W, X)), ("+", ("cell", "r", W), X), ("*", ("number", 9), W), ("minus", ("div", W, W)),
)
GUARDS = tuple(("guard", sign, left, right) for sign in ("<", "<=", "==", "!=") for left, right in (
    (X, ZERO), (ZERO, X), (X, W), (W, X), (X, X), (W, W), (("+", X, ONE), W), (("*", TWO, X), W), (("mod", X, TWO), ONE), (("cell", "r", X), W),
    (("-", X, W), ONE), (("minus", X), W), (("div", THREE, X), W), (("+", X, W), TWO), (TWO, THREE), (("-", X, X), ZERO)))


def point(sight, numbers, cells):
    """The look of one value alone, if the cells of each row are alike."""
    n = len(numbers)
    told = (0,) + tuple(numbers)
    rows = tuple(tuple(1 if k == at else 0 for k in range(n)) + (number,) for at, number in enumerate(numbers))
    pairs = []
    for row in cells:
        low, high = min(row), max(row)
        pairs.append(((low, high), (low, 0) if low == high else (0, 1)))
    return (tuple((number, number) for number in numbers), tuple((number, 0) for number in numbers),
            tuple(tuple(a - b for b in told) for a in told), rows, tuple(pairs))


def wide_looks(sight, seed, many):
    """Looks that hold some of the small values, drawn."""
    drawer = StepDrawer(seed)
    found = [looks.free_look(sight)]
    while len(found) < many:
        look = drawer.look(sight)
        if look is not None and looks.exchanged(sight, look) is not None:
            found.append(look)
    return found


class Points(unittest.TestCase):
    """On a look of one value alone a step tells just what it brings forth."""

    def asked(self, sight, numbers, cells, step, given=None):
        found = effects.effect_of(sight, point(sight, numbers, cells), step)
        after = brought(sight, numbers, cells, step, given)
        if after is None:
            if step[0] != "guard" or found is None:
                self.assertIsNone(found)
            return found
        self.assertTrue(is_held(found, *after), (numbers, cells, step))
        for (low, high), (r, m), number in zip(found[0], found[1], after[0]):
            self.assertEqual((low, high, r, m), (number, number, number, 0))
        return found

    def test_sets(self):
        for numbers, cells in itertools.product(NUMBERS, (((5, 5),),)):
            for expression in EXPRESSIONS:
                for name in ("x", "w"):
                    self.asked(SIGHT, numbers, cells, ("set", name, expression))

    def test_a_set_keeps_what_is_told_together(self):
        for numbers in NUMBERS:
            for expression in EXPRESSIONS[:19]:
                after = brought(SIGHT, numbers, ((5, 5),), ("set", "x", expression))
                if after is not None:
                    found = effects.effect_of(SIGHT, point(SIGHT, numbers, ((5, 5),)), ("set", "x", expression))
                    self.assertEqual(found, point(SIGHT, *after))

    def test_asks(self):
        for numbers in NUMBERS:
            look = point(SIGHT, numbers, ((5, 5),))
            for given in range(-3, 6):
                self.assertEqual(effects.effect_of(SIGHT, look, ("ask", "x", given, given)), point(SIGHT, (given, numbers[1]), ((5, 5),)))
            found = effects.effect_of(SIGHT, look, ("ask", "x", -1, None))
            self.assertEqual((found[0], found[3]), (((-1, None), look[0][1]), look[3][1:]))

    def test_puts(self):
        for numbers in NUMBERS:
            for sight, cells in ((SIGHT, ((1, 1),)), (SINGLE, ((1,),))):
                for index in (ZERO, ONE, X, ("-", X, W)):
                    for expression in (X, W, ("div", THREE, X), ("number", 8)):
                        found = self.asked(sight, numbers, cells, ("put", "r", index, expression))
                        if found is not None:
                            number = reckoned(expression, told_values(sight, numbers, cells))
                            low, high = sorted((1, number)) if sight == SIGHT else (number, number)
                            self.assertEqual(found[4][0][0], (low, high))

    def test_guards(self):
        for numbers in NUMBERS:
            for guard in GUARDS:
                found = self.asked(SIGHT, numbers, ((5, 5),), guard)
                if brought(SIGHT, numbers, ((5, 5),), guard) is not None:
                    self.assertEqual(found, point(SIGHT, numbers, ((5, 5),)))
                elif guard[2] != guard[3] or guard[1] != "<":
                    self.assertIsNone(found, (numbers, guard))

    def test_worths_and_faults(self):
        for numbers in NUMBERS:
            for expression in EXPRESSIONS:
                look = point(SIGHT, numbers, ((5, 5),))
                number = reckoned(expression, told_values(SIGHT, numbers, ((5, 5),)))
                told = effects.faults_in(SIGHT, look, expression)
                self.assertIs(told == (), number is not None, (numbers, expression, told))
                worth = effects.worth_of(SIGHT, look, expression)
                self.assertEqual(worth, ((), ()) if number is None else ((number, number), (number, 0)))


class Wide(unittest.TestCase):
    """On wide looks all that a step brings forth from small values lies in what is told."""

    cells = {2: tuple(itertools.product((0, 1, 7), repeat=2)), 1: ((0,), (1,), (7,))}

    def asked(self, sight, look, step, gives=(None,)):
        found = effects.effect_of(sight, look, step)
        self.assertTrue(looks.is_look(sight, found))
        many = 0
        for numbers in NUMBERS:
            for row in self.cells[sight[1][0][1][1]]:
                if not is_held(look, numbers, (row,)):
                    continue
                for given in gives:
                    after = brought(sight, numbers, (row,), step, given)
                    if after is not None:
                        many += 1
                        self.assertTrue(looks.look_holds(sight, found, *after), (look, step, numbers, row))
        return many

    def test_all_steps(self):
        many = 0
        for sight, seed in ((SIGHT, 1301), (SINGLE, 1302)):
            told = wide_looks(sight, seed, 14)
            steps = [("set", name, expression) for name in ("x", "w") for expression in EXPRESSIONS] + list(GUARDS)
            steps += [("put", "r", index, expression) for index in (ZERO, X, ("-", W, X), ("mod", X, W)) for expression in (ONE, ("*", X, W), ("cell", "r", ZERO))]
            for at, step in enumerate(steps):
                for look in (told[0], told[1 + at % 13], told[1 + (5 * at + 1) % 13]):
                    many += self.asked(sight, look, step)
        self.assertGreater(many, 20000)

    def test_asks(self):
        for look in wide_looks(SIGHT, 1303, 10):
            for name, low, high in (("x", None, None), ("x", -1, 2), ("w", 0, 3), ("w", -2, 1), ("w", 2, 9), ("w", None, None)):
                gives = tuple(number for number in range(-5, 12) if (low is None or low <= number) and (high is None or number <= high))
                self.assertGreaterEqual(self.asked(SIGHT, look, ("ask", name, low, high), gives), 0)

    def test_lesser_looks_bring_forth_no_more(self):
        told = wide_looks(SIGHT, 1304, 12)
        for at, (one, other) in enumerate(itertools.product(told, repeat=2)):
            lesser = looks.look_met(SIGHT, one, other)
            step = (GUARDS + tuple(("set", "x", expression) for expression in EXPRESSIONS))[at % (len(GUARDS) + len(EXPRESSIONS))]
            before, behind = effects.effect_of(SIGHT, lesser, step), effects.effect_of(SIGHT, one, step)
            for numbers in NUMBERS:
                after = brought(SIGHT, numbers, ((0, 7),), step)
                if after is not None and is_held(lesser, numbers, ((0, 7),)):
                    self.assertTrue(is_held(before, *after) and is_held(behind, *after))

    def test_faults_and_worths(self):
        for look in wide_looks(SIGHT, 1305, 16):
            for expression in EXPRESSIONS:
                told, worth = effects.faults_in(SIGHT, look, expression), effects.worth_of(SIGHT, look, expression)
                for numbers in NUMBERS:
                    for row in self.cells[2]:
                        if is_held(look, numbers, (row,)):
                            number = reckoned(expression, told_values(SIGHT, numbers, (row,)))
                            if number is None:
                                self.assertNotEqual(told, ())
                            else:
                                self.assertTrue(is_held((worth[:1], worth[1:], ((0, None), (None, 0)), (), ()), (number,), ()))

    def test_none(self):
        for step in GUARDS + (("set", "x", ONE), ("ask", "w", 0, 1), ("put", "r", ZERO, ONE)):
            self.assertIsNone(effects.effect_of(SIGHT, None, step))


class ByHand(unittest.TestCase):
    free = looks.free_look(SIGHT)

    def test_words_that_wrap(self):
        begun = effects.effect_of(SIGHT, self.free, ("ask", "w", 1, 3))
        self.assertEqual((begun[0][1], begun[3]), ((1, 3), ()))
        # Up to 3 it fits, and its form goes in; from 4 on it is wrapped, and nothing goes in.
        same = effects.effect_of(SIGHT, begun, ("set", "w", ("-", W, ONE)))
        self.assertEqual((same[0][1], same[2][2]), ((0, 2), (2, None, 0)))
        more = effects.effect_of(SIGHT, begun, ("set", "w", ("+", W, ONE)))
        self.assertEqual((more[0][1], more[2][2], more[3]), ((0, 3), (3, None, 0), ()))
        all_above = effects.effect_of(SIGHT, begun, ("set", "w", ("+", W, THREE)))
        self.assertEqual(all_above[0][1], (0, 2))
        doubled = effects.effect_of(SIGHT, self.free, ("set", "w", ("*", TWO, X)))
        self.assertEqual((doubled[0][1], doubled[1][1], doubled[3]), ((0, 2), (0, 2), ()))
        linked = effects.effect_of(SIGHT, begun, ("set", "x", ("*", TWO, W)))
        self.assertEqual((linked[0][0], linked[1][0], linked[3]), ((2, 6), (0, 2), ((1, -2, 0),)))
        # It takes 2^2 from x: the row that tells of x and w is gone.
        self.assertEqual(effects.effect_of(SIGHT, linked, ("set", "w", X))[3], ())
        self.assertEqual(effects.effect_of(SIGHT, linked, ("set", "x", ("+", X, ONE)))[3], ((1, -2, 1),))

    def test_both_sides(self):
        nine = effects.effect_of(SIGHT, self.free, ("ask", "x", 0, 9))
        self.assertEqual(effects.effect_of(SIGHT, nine, ("guard", "<=", X, X)), nine)
        self.assertEqual(effects.effect_of(SIGHT, nine, ("guard", "==", X, X)), nine)
        self.assertEqual(effects.effect_of(SIGHT, nine, ("guard", "!=", X, X)), nine)
        # By stretches alone: below 9 on the left, above 0 on the right.
        self.assertEqual(effects.effect_of(SIGHT, nine, ("guard", "<", X, X))[0][0], (1, 8))
        self.assertIsNone(effects.effect_of(SIGHT, point(SIGHT, (4, 0), ((0, 0),)), ("guard", "!=", X, X)))
        self.assertIsNone(effects.effect_of(SIGHT, point(SIGHT, (4, 0), ((0, 0),)), ("guard", "<", X, X)))
        self.assertIsNone(effects.effect_of(SIGHT, nine, ("guard", "==", X, ("+", X, ONE))))
        self.assertEqual(effects.effect_of(SIGHT, nine, ("guard", "<", X, ("+", X, ONE))), nine)

    def test_great_names(self):
        # In a worth a great end is none; the name's own stretch stays, and is met.
        great = 2 ** 1300
        look = (((great, great + 5), (0, 3)),) + self.free[1:]
        self.assertEqual(effects.worth_of(SIGHT, look, X), ((None, None), (0, 1)))
        for guard in (("guard", "<", X, W), ("guard", "<=", X, ZERO), ("guard", "==", W, X), ("guard", "==", X, W)):
            self.assertIsNone(effects.effect_of(SIGHT, look, guard))
        found = effects.effect_of(SIGHT, look, ("guard", "<", W, X))
        self.assertEqual((found[0], found[2][2][1]), (((great, great + 5), (0, 3)), 3 - great))
        found = effects.effect_of(SIGHT, look, ("set", "x", ("+", X, ONE)))
        self.assertEqual((found[0][0], found[2][1][0]), ((great + 1, great + 6), great + 6))
        just = (((great, great), (0, 3)), ((great, 0), (0, 1))) + self.free[2:]
        found = effects.effect_of(SIGHT, just, ("set", "w", X))
        self.assertEqual((found[0][1], found[1][1]), ((0, 0), (0, 0)))
        found = effects.effect_of(SIGHT, just, ("set", "x", ("minus", X)))
        self.assertEqual((found[0][0], found[1][0]), ((None, None), (-great % 20160, 20160)))
        # Where a row of the equations tells it, exchange brings it back.
        found = effects.effect_of(SIGHT, just[:3] + (((1, 0, great),),) + just[4:], ("set", "x", ("minus", X)))
        self.assertEqual((found[0][0], found[1][0]), ((-great, -great), (-great, 0)))

    def test_rows_of_one_cell_are_replaced(self):
        cells = ((0, 0), (0, 0))
        for sight, expected in ((SIGHT, ((0, 8), (0, 8))), (SINGLE, ((8, 8), (8, 0)))):
            begun = looks.free_look(sight)[:4] + ((cells,),)
            self.assertEqual(effects.effect_of(sight, begun, ("put", "r", ZERO, ("number", 8)))[4], (expected,))

    def test_a_put_guards_its_index(self):
        found = effects.effect_of(SIGHT, self.free, ("put", "r", X, ONE))
        self.assertEqual(found[0][0], (0, 1))
        found = effects.effect_of(SIGHT, self.free, ("put", "r", ("-", X, W), ONE))
        self.assertEqual((found[2][1][2], found[2][2][1]), (1, 0))
        # The number is reckoned behind both guards.
        found = effects.effect_of(SIGHT, self.free, ("put", "r", X, X))
        self.assertEqual(found[0][0], (0, 1))
        zero = looks.free_look(SIGHT)[:4] + ((((0, 0), (0, 0)),),)
        self.assertEqual(effects.effect_of(SIGHT, zero, ("put", "r", X, X))[4], (((0, 1), (0, 1)),))

    def test_products_with_one_part_that_has_no_name(self):
        self.assertEqual(effects.form_of(SIGHT, ("*", ("-", TWO, ("number", 5)), ("-", X, W))), (-3, 3, 0))
        self.assertEqual(effects.form_of(SIGHT, ("*", ("-", X, W), ("-", X, X))), (0, 0, 0))
        self.assertEqual(effects.form_of(SIGHT, ("*", ("+", X, ONE), ("+", ("-", X, X), THREE))), (3, 0, 3))
        self.assertIsNone(effects.form_of(SIGHT, ("*", X, ("-", W, X))))
        self.assertIsNone(effects.form_of(SIGHT, ("*", ZERO, ("*", X, X))))

    def test_a_guard_of_great_forms_is_let(self):
        big = ("number", 10 ** 39)
        for _ in range(3):
            big = ("*", big, big)
        self.assertIsNotNone(effects.form_of(SIGHT, ("*", big, X)))
        self.assertIsNone(effects.form_of(SIGHT, ("*", ("*", big, big), X)))
        # The form of the left part less that of the right one may be of any size.
        found = effects.effect_of(SIGHT, self.free, ("guard", "==", ("*", big, X), ("*", ("minus", big), W)))
        self.assertEqual(found[3], ((1, 1, 0),))


class Calls(unittest.TestCase):
    """Gives, first looks and looks behind calls, with words, globals, and a procedure that calls itself."""

    program = read("num g; row 2 s; word 2 v; proc main() { num x; word 1 b; row 1 t; x = call f(x, g); } "
                   "proc f(word 2 p, num q) { num z; row 2 y; call f(q, p); give p; }")
    values = (-2, 0, 1, 3)

    def sights(self):
        return [looks.sight_of(self.program, index) for index in range(2)] + [looks.end_sight(self.program)]

    def drawn_values(self, drawer, sight, many):
        for _ in range(many):
            numbers = tuple(drawer.random.randrange(2 ** kind[1]) if kind[0] == "word" else drawer.random.choice(self.values) for _, kind in sight[0])
            yield numbers, tuple(tuple(drawer.random.choice(self.values) for _ in range(kind[1])) for _, kind in sight[1])

    def drawn_looks(self, drawer, sight, many):
        """Looks with values that they hold: joined of some values, and met with drawn looks."""
        for _ in range(many):
            told = list(self.drawn_values(drawer, sight, drawer.random.choice((1, 1, 2, 3, 6))))
            look = None
            for numbers, cells in told:
                look = looks.look_joined(sight, look, point(sight, numbers, cells))
            yield (look if drawer.random.random() < 0.6 else looks.look_widened(sight, (0, 5), look, looks.look_joined(sight, look, drawer.look(sight)))), told

    def test_gives(self):
        drawer = StepDrawer(1311)
        for index in (0, 1):
            sight = self.sights()[index]
            for look, told in self.drawn_looks(drawer, sight, 150):
                expression = drawer.over(sight).expression(3)
                found = effects.effect_of_give(self.program, index, look, expression)
                for numbers, cells in told:
                    self.assertTrue(is_held(look, numbers, cells))
                    number = reckoned(expression, told_values(sight, numbers, cells))
                    if number is not None:
                        self.assertTrue(is_held(found, numbers[:2] + (number,), cells[:1]))
                        if len(told) == 1 and look[0] == point(sight, numbers, cells)[0] and len(set(cells[0])) == 1:
                            self.assertEqual(found[0], tuple((one, one) for one in numbers[:2] + (number,)))
            self.assertIsNone(effects.effect_of_give(self.program, index, None, ONE))

    def test_first_looks(self):
        drawer = StepDrawer(1312)
        for index, called in ((0, 1), (1, 1), (1, 0), (0, 0)):
            sight, inner = self.sights()[index], self.sights()[called]
            params = self.program[1][called][1]
            for look, told in self.drawn_looks(drawer, sight, 100):
                arguments = tuple(drawer.over(sight).expression(2) for _ in params)
                found = effects.first_look(self.program, index, called, look, arguments)
                for numbers, cells in told:
                    passed = [reckoned(argument, told_values(sight, numbers, cells)) for argument in arguments]
                    if None in passed:
                        continue
                    own = [one % 4 if kind == ("word", 2) else one for one, (_, kind) in zip(passed, params)]
                    own += [0] * (len(inner[0]) - 2 - len(own))
                    noughts = tuple((0,) * kind[1] for _, kind in inner[1][1:])
                    self.assertTrue(is_held(found, numbers[:2] + tuple(own), cells[:1] + noughts))
            self.assertIsNone(effects.first_look(self.program, index, called, None, (ONE,) * len(params)))
        none = ("div", ONE, ZERO)
        self.assertIsNone(effects.first_look(self.program, 0, 1, looks.free_look(self.sights()[0]), (ONE, none)))

    def test_looks_behind(self):
        drawer = StepDrawer(1313)
        end = self.sights()[2]
        for index in (0, 1):
            sight = self.sights()[index]
            names = [name for name, _ in sight[0]]
            for look, told in self.drawn_looks(drawer, sight, 80):
                for last, ended in self.drawn_looks(drawer, end, 2):
                    for name in [None] + names:
                        found = effects.look_behind(self.program, index, name, look, last)
                        for (numbers, cells), (after, after_cells) in itertools.product(told, ended):
                            home = list(after[:2] + numbers[2:])
                            if name is not None:
                                kind = dict(sight[0])[name]
                                home[names.index(name)] = after[-1] % 2 ** kind[1] if kind[0] == "word" else after[-1]
                            self.assertTrue(is_held(found, tuple(home), after_cells + cells[1:]))
                    self.assertIsNone(effects.look_behind(self.program, index, None, look, None))
                    self.assertIsNone(effects.look_behind(self.program, index, names[0], None, last))

    def test_by_hand(self):
        sight, inner, end = self.sights()
        self.assertEqual([name for name, _ in sight[0]], ["g", "v", "x", "b"])
        begun = point(sight, (5, 2, 7, 1), ((0, 0), (9,)))
        first = effects.first_look(self.program, 0, 1, begun, (("name", "x"), ("name", "g")))
        # p takes 7 by 4, so nothing is told of p and x together; the rows of f are 0.
        self.assertEqual((first[0], first[4]), (((5, 5), (2, 2), (3, 3), (5, 5), (0, 0)), (((0, 0), (0, 0)), ((0, 0), (0, 0)))))
        self.assertEqual(first[3], ((1, 0, 0, 0, 0, 5), (0, 1, 0, 0, 0, 2), (0, 0, 0, 1, 0, 5), (0, 0, 0, 0, 1, 0)))
        wide = looks.free_look(sight)
        first = effects.first_look(self.program, 0, 1, wide, (("mod", ("name", "g"), ("number", 4)), ("-", ("name", "g"), ONE)))
        self.assertEqual((first[0], first[3]), (((None, None), (None, None), (0, 3), (None, None), (0, 0)), ((1, 0, 0, -1, 0, 1), (0, 0, 0, 0, 1, 0))))
        # Both params take what was there ahead of the call, by the look as it was.
        swapped = effects.first_look(self.program, 1, 1, point(inner, (0, 0, 1, 6, 0), ((0, 0), (0, 0))), (("name", "q"), ("name", "p")))
        self.assertEqual(swapped[0], ((0, 0), (0, 0), (2, 2), (1, 1), (0, 0)))
        ended = point(end, (8, 3, 6), ((4, 4),))
        for name, expected in ((None, (8, 3, 7, 1)), ("g", (6, 3, 7, 1)), ("v", (8, 2, 7, 1)), ("x", (8, 3, 6, 1)), ("b", (8, 3, 7, 0))):
            behind = effects.look_behind(self.program, 0, name, begun, ended)
            self.assertEqual(behind[0], tuple((one, one) for one in expected))
            self.assertEqual(behind[4], (((4, 4), (4, 0)), ((9, 9), (9, 0))))
        # What is given goes along with the globals: x is g + 1 behind the call.
        free = looks.free_look(end)
        linked = free[:3] + (((1, 0, -1, -1),),) + free[4:]
        self.assertEqual(effects.look_behind(self.program, 0, "x", looks.free_look(sight), linked)[3], ((1, 0, -1, 0, -1),))
        self.assertEqual(effects.look_behind(self.program, 0, "g", looks.free_look(sight), linked)[3], ())
        self.assertEqual(effects.look_behind(self.program, 0, None, looks.free_look(sight), linked)[3], ())
        # What the caller knew of its own names stays, what it knew of globals is gone.
        kept = wide[:3] + (((1, 0, -1, 0, 0), (0, 0, 0, 1, 1)),) + wide[4:]
        self.assertEqual(effects.look_behind(self.program, 0, None, kept, free)[3], ((0, 0, 0, 1, 1),))
        # A give keeps the form beside the globals.
        given = effects.effect_of_give(self.program, 0, kept, ("+", ("name", "x"), ("name", "b")))
        self.assertEqual(given[3], ((1, 0, -1, -1),))


if __name__ == "__main__":
    unittest.main()
