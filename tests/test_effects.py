"""[E5] to [E9]: forms, worths, faults and effects, beside the reference and held against values."""

import unittest

from soundlooks import effects, looks
from soundlooks.errors import InvalidExpression, InvalidIndex, InvalidLook, InvalidProgram, InvalidSight, InvalidStep
from soundlooks.text import read
from tests import reference
from tests.drawing import Drawer
from tests.helper import NUM, ONE
from tests.refusing import ODD, UNASKED, asked_in_order, given_wrongs
from tests.test_looks import FREE, SIGHT, LookDrawer, is_held
from tests.test_machine import GREAT

A = ("name", "a")
N, I = ("name", "n"), ("name", "i")


def reckoned(expression, told):
    """What an expression comes to, by Python's own words; None for a fault."""
    word = expression[0]
    if word == "number":
        return expression[1]
    if word == "name":
        return told[expression[1]]
    parts = [reckoned(part, told) for part in expression[1:] if isinstance(part, tuple)]
    if None in parts:
        return None
    if word == "cell":
        return told[expression[1]][parts[0]] if 0 <= parts[0] < len(told[expression[1]]) else None
    if word == "minus":
        return -parts[0]
    left, right = parts
    if word in ("div", "mod"):
        return None if right == 0 else divmod(left, right)[0 if word == "div" else 1]
    return left + right if word == "+" else left - right if word == "-" else left * right


def told_values(sight, numbers, cells):
    return {**dict(zip([name for name, _ in sight[0]], numbers)), **dict(zip([name for name, _ in sight[1]], cells))}


def brought(sight, numbers, cells, step, given=None):
    """What a step brings forth from values: (numbers, cells); None for a fault or a guard that lets nothing by."""
    told = told_values(sight, numbers, cells)
    if step[0] == "guard":
        left, right = reckoned(step[2], told), reckoned(step[3], told)
        if left is None or right is None:
            return None
        so = {"<": left < right, "<=": left <= right, "==": left == right, "!=": left != right}[step[1]]
        return (numbers, cells) if so else None
    if step[0] == "put":
        index, number = reckoned(step[2], told), reckoned(step[3], told)
        if index is None or number is None or not 0 <= index < len(told[step[1]]):
            return None
        told[step[1]] = told[step[1]][:index] + (number,) + told[step[1]][index + 1:]
    else:
        number = reckoned(step[2], told) if step[0] == "set" else given
        if number is None:
            return None
        kind = dict(sight[0])[step[1]]
        told[step[1]] = number % 2 ** kind[1] if kind[0] == "word" else number
    return tuple(told[name] for name, _ in sight[0]), tuple(told[name] for name, _ in sight[1])


class StepDrawer(LookDrawer):
    """Draws expressions and steps over sights, too."""

    def __init__(self, seed):
        LookDrawer.__init__(self, seed)
        self.drawer = Drawer(seed + 1)

    def over(self, sight):
        self.drawer.numbers = [name for name, _ in sight[0]]
        self.drawer.rows = [name for name, _ in sight[1]]
        return self.drawer

    def step(self, sight):
        drawer = self.over(sight)
        words = ["guard"] * 4 + ["set", "set", "set", "ask"] * bool(sight[0]) + ["put", "put"] * bool(sight[1])
        word = self.random.choice(words)
        if word == "guard":
            return ("guard",) + drawer.condition(1)
        if word == "put":
            return ("put", self.random.choice(drawer.rows), drawer.expression(2), drawer.expression(2))
        name = self.random.choice(drawer.numbers)
        if word == "ask":
            return ("ask", name, drawer.choose(None, -3, 0, 2), drawer.choose(None, 2, 3, 20))
        return ("set", name, drawer.expression(3))


class Drawn(unittest.TestCase):
    def setUp(self):
        self.drawer = StepDrawer(41)

    def test_expressions(self):
        told_faults = set()
        for _ in range(1500):
            sight = self.drawer.sight()
            look, expression = self.drawer.look(sight), self.drawer.over(sight).expression(4)
            if self.drawer.random.random() < 0.5:
                look = looks.exchanged(sight, look)
            names = [name for name, _ in sight[0]]
            form = effects.form_of(sight, expression)
            self.assertEqual(form, reference.form_of(names, expression))
            worth = effects.worth_of(sight, look, expression)
            self.assertEqual(worth, reference.worth(sight, look, expression), (sight, look, expression))
            faults = effects.faults_in(sight, look, expression)
            self.assertEqual(faults, reference.faults(sight, look, expression))
            told_faults.add(faults)
            numbers, cells = self.drawer.values(sight, look)
            told = dict(zip(names, numbers))
            told.update(zip([name for name, _ in sight[1]], cells))
            number = reckoned(expression, told)
            if form is not None:
                self.assertEqual(number, sum(a * v for a, v in zip(form, numbers)) + form[-1])
            if is_held(look, numbers, cells):
                if number is None:
                    self.assertNotEqual(faults, ())
                else:
                    self.assertTrue(is_held((worth[:1], worth[1:], ((0, None), (None, 0)), (), ()), (number,), ()))
        self.assertEqual(told_faults, {(), ("zero",), ("cell",), ("zero", "cell")})

    def test_steps(self):
        held = 0
        for _ in range(2500):
            sight = self.drawer.sight()
            look, step = self.drawer.look(sight), self.drawer.step(sight)
            found = effects.effect_of(sight, look, step)
            self.assertEqual(found, reference.effect(sight, look, step), (sight, look, step))
            numbers, cells = self.drawer.values(sight, look)
            if is_held(look, numbers, cells):
                after = brought(sight, numbers, cells, step, self.given(step))
                if after is not None:
                    held += 1
                    self.assertTrue(is_held(found, *after), (sight, look, step, numbers, cells))
        self.assertGreater(held, 300)

    def given(self, step):
        """A number that an ask lets in; None for other steps."""
        if step[0] != "ask":
            return None
        return self.drawer.random.randint(-9 if step[2] is None else step[2], 30 if step[3] is None else step[3])

    def test_gives_and_calls(self):
        programs = Drawer(77, tame=True, procs=3)
        held = 0
        for _ in range(500):
            program = programs.program()
            index = self.drawer.random.randrange(len(program[1]))
            called = self.drawer.random.randrange(len(program[1]))
            sight, inner, end = looks.sight_of(program, index), looks.sight_of(program, called), looks.end_sight(program)
            look, last = self.drawer.look(sight), self.drawer.look(end)
            expression = self.drawer.over(sight).expression(3)
            numbers, cells = self.drawer.values(sight, look)
            told = {**dict(zip([name for name, _ in sight[0]], numbers)), **dict(zip([name for name, _ in sight[1]], cells))}
            shared, rows = len(end[0]) - 1, len(end[1])
            given = effects.effect_of_give(program, index, look, expression)
            self.assertEqual(given, reference.give(program, index, look, expression))
            number = reckoned(expression, told)
            if is_held(look, numbers, cells) and number is not None:
                self.assertTrue(is_held(given, numbers[:shared] + (number,), cells[:rows]))
            arguments = tuple(self.drawer.over(sight).expression(2) for _ in program[1][called][1])
            first = effects.first_look(program, index, called, look, arguments)
            self.assertEqual(first, reference.first_look(program, index, called, look, arguments))
            passed = [reckoned(argument, told) for argument in arguments]
            if is_held(look, numbers, cells) and None not in passed:
                own = [n % 2 ** kind[1] if kind[0] == "word" else n for n, (_, kind) in zip(passed, program[1][called][1])]
                own += [0] * (len(inner[0]) - shared - len(own))
                noughts = tuple((0,) * kind[1] for _, kind in inner[1][rows:])
                self.assertTrue(is_held(first, numbers[:shared] + tuple(own), cells[:rows] + noughts))
            name = self.drawer.random.choice([None] + [one for one, _ in sight[0]])
            behind = effects.look_behind(program, index, name, look, last)
            self.assertEqual(behind, reference.behind(program, index, name, look, last))
            after, after_cells = self.drawer.values(end, last)
            if is_held(look, numbers, cells) and is_held(last, after, after_cells):
                names = [one for one, _ in sight[0]]
                home = list(after[:shared] + numbers[shared:])
                if name is not None:
                    kind = dict(sight[0])[name]
                    home[names.index(name)] = after[-1] % 2 ** kind[1] if kind[0] == "word" else after[-1]
                self.assertTrue(is_held(behind, tuple(home), after_cells + cells[rows:]))
                held += 1
        self.assertGreater(held, 10)


class ByHand(unittest.TestCase):
    def test_forms(self):
        def form(expression):
            return effects.form_of(SIGHT, expression)

        self.assertEqual(form(("number", 7)), (0, 0, 7))
        self.assertEqual(form(("minus", ("-", N, ("*", ("number", 3), I)))), (-1, 3, 0))
        self.assertEqual(form(("*", ("+", N, I), ("-", ("number", 2), ("number", 5)))), (-3, -3, 0))
        self.assertEqual(form(("*", ("-", N, N), ("+", I, ONE))), (0, 0, 0))
        self.assertEqual(form(("*", ("-", N, I), ("+", I, ONE))), None)
        for word in ("div", "mod"):
            self.assertEqual(form((word, ("number", 6), ("number", 2))), None)
            self.assertEqual(form(("*", ("number", 0), (word, N, ONE))), None)
        self.assertEqual(form(("cell", "r", ONE)), None)

    def test_great_forms(self):
        ten = ("number", 2 ** 130)
        power = ten
        for _ in range(3):
            power = ("*", power, power)
        self.assertEqual(effects.form_of(SIGHT, ("*", power, N)), (2 ** 1040, 0, 0))
        square = ("*", ("*", power, ten), ten)
        self.assertEqual(effects.form_of(SIGHT, ("*", N, ("-", square, ONE))), None)
        self.assertEqual(effects.form_of(SIGHT, ("-", ("*", power, N), ("*", power, N))), (0, 0, 0))

    def test_worths_of_great_numbers(self):
        look = (((GREAT - 2, GREAT + 5), (0, 3)), ((0, 1), (0, 1)), FREE[2], (), FREE[4])
        self.assertEqual(effects.worth_of(SIGHT, look, N), ((GREAT - 2, None), (0, 1)))
        self.assertEqual(effects.worth_of(SIGHT, look, ("minus", N)), ((None, 2 - GREAT), (0, 1)))
        look = (((GREAT, GREAT), (0, 3)), ((GREAT, 0), (0, 1)), FREE[2], (), FREE[4])
        self.assertEqual(effects.worth_of(SIGHT, look, N), ((None, None), (GREAT % 20160, 20160)))
        self.assertEqual(effects.worth_of(SIGHT, look, ("-", N, N)), ((None, None), (0, 20160)))

    def test_a_word_is_wrapped(self):
        behind = effects.effect_of(SIGHT, FREE, ("set", "i", ("number", 16)))
        self.assertEqual((behind[0][1], behind[1][1], behind[3]), ((0, 0), (0, 0), ()))
        behind = effects.effect_of(SIGHT, FREE, ("set", "i", ("number", 15)))
        self.assertEqual((behind[0][1], behind[1][1], behind[3]), ((15, 15), (15, 0), ((0, 1, 15),)))
        behind = effects.effect_of(SIGHT, FREE, ("ask", "i", -1, 3))
        self.assertEqual((behind[0][1], behind[3]), ((0, 15), ()))
        behind = effects.effect_of(SIGHT, FREE, ("ask", "i", 3, 3))
        self.assertEqual((behind[0][1], behind[3]), ((3, 3), ((0, 1, 3),)))

    def test_nothing(self):
        for step in (("set", "n", ("div", ONE, ("number", 0))), ("guard", "<", N, N), ("put", "r", ("number", 2), ONE),
                     ("put", "r", ONE, ("mod", N, ("number", 0))), ("guard", "!=", ONE, ONE), ("set", "n", ("cell", "r", ("minus", ONE)))):
            self.assertEqual(effects.effect_of(SIGHT, None, step), None)
            if step[1] != "<":
                self.assertEqual(effects.effect_of(SIGHT, FREE, step), None)
        ring = FREE[:2] + (((0, -1, None), (0, 0, None), (None, None, 0)),) + FREE[3:]
        self.assertEqual(effects.effect_of(SIGHT, ring, ("set", "n", ONE)), None)
        # The closing is asked for by a name alone; by a number it is not.
        self.assertEqual(effects.worth_of(SIGHT, ring, ONE), ((1, 1), (1, 0)))
        self.assertEqual(effects.worth_of(SIGHT, ring, N), ((), ()))
        self.assertEqual(effects.worth_of(SIGHT, None, ONE), ((), ()))
        self.assertEqual(effects.faults_in(SIGHT, None, ("div", ONE, ("number", 0))), ())


class Refusals(unittest.TestCase):
    program = read("num g; proc main() { num x; } proc f(num a, num b) { num y; }")
    sight = given_wrongs(InvalidSight, None, (), ((), ((), ())), *ODD)
    look = given_wrongs(InvalidLook, 0, (), FREE[:4], *ODD)
    expression = given_wrongs(InvalidExpression, None, 0, (), ("name", "q"), ("name", "r"), ("cell", "n", ONE), ("number", -1), ("number", True), ("+", N),
                              ("name", "given"), UNASKED, ("+", UNASKED, ONE), *ODD)
    step = given_wrongs(
        InvalidStep, None, 0, (), ("set", "r", ONE), ("set", "n"), ("set", "q", ONE), ("put", "n", ONE, ONE), ("put", "r", ONE), ("ask", "n", 3, 2),
        ("ask", "n", True, 2), ("ask", "r", 0, 2), ("ask", "n", 10 ** 40, None), ("guard", ">", N, I), ("guard", "<", N), ("guard", "not", N, I), ("give", N),
        ("call", None, "f", ()), ("guard", UNASKED, N, I), ("set", UNASKED, N), ("put", "r", ("name", "q"), ONE),
        ("put", "r", ONE, ("name", "q")), ("guard", "<", ("name", "r"), N), ("guard", "<", N, ("name", "r")), ("guard", "<", N, I, I), ("set", "n", N, N), ("guard", "<", N, ("name", "given")), *ODD)
    programs = [(((), None), InvalidProgram, {"place": (1,)})]
    index = given_wrongs(InvalidIndex, None, -1, 2, (), *ODD)

    def test_refusals(self):
        right = {"sight": SIGHT, "look": FREE, "expression": ("+", N, ("cell", "r", I)), "step": ("guard", "<", N, I)}
        wrong = {"sight": self.sight, "look": self.look, "expression": self.expression, "step": self.step}
        for call, names in ((effects.form_of, "sight expression"), (effects.worth_of, "sight look expression"), (effects.faults_in, "sight look expression"),
                            (effects.effect_of, "sight look step")):
            asked_in_order(self, call, {name: right[name] for name in names.split()}, {name: wrong[name] for name in names.split()})

    def test_refusals_with_a_program(self):
        two = looks.free_look(looks.sight_of(self.program, 0))
        looks_wrong = given_wrongs(InvalidLook, 0, (), FREE, *ODD)
        x = ("name", "x")
        expression = given_wrongs(InvalidExpression, None, 0, (), ("name", "a"), ("name", "given"), UNASKED, *ODD)
        asked_in_order(self, effects.effect_of_give, {"program": self.program, "index": 0, "look": two, "expression": x},
                       {"program": self.programs, "index": self.index, "look": looks_wrong, "expression": expression})
        arguments = given_wrongs(InvalidExpression, None, 0, (), (x,), (x, x, x), (x, A), [x, x], (x, None), (UNASKED, x), *ODD)
        asked_in_order(self, effects.first_look, {"program": self.program, "index": 0, "called": 1, "look": two, "arguments": (x, x)},
                       {"program": self.programs, "index": self.index, "called": self.index, "look": looks_wrong, "arguments": arguments})
        name = given_wrongs(InvalidExpression, 0, (), "a", "given", ("x",), UNASKED, *ODD)
        asked_in_order(self, effects.look_behind, {"program": self.program, "index": 0, "name": "x", "look": two, "end": two},
                       {"program": self.programs, "index": self.index, "name": name, "look": looks_wrong, "end": looks_wrong})

    def test_given(self):
        sight = looks.end_sight(self.program)
        self.assertEqual(effects.form_of(sight, ("name", "given")), (0, 1, 0))
        self.assertEqual(sight[0], (("g", NUM), ("given", NUM)))

    def test_depth(self):
        deep = N
        for _ in range(7):
            deep = ("minus", deep)
        self.assertEqual(effects.form_of(SIGHT, deep), (-1, 0, 0))
        with self.assertRaises(InvalidExpression):
            effects.form_of(SIGHT, ("minus", deep))
        effects.effect_of(SIGHT, FREE, ("guard", "<", deep, deep))
        with self.assertRaises(InvalidStep):
            effects.effect_of(SIGHT, FREE, ("set", "n", ("minus", deep)))


if __name__ == "__main__":
    unittest.main()
