"""[A9]: the shown text of programs, expressions and conditions."""

import itertools
import random
import unittest

from soundlooks.errors import InvalidIndex, InvalidProgram
from soundlooks.text import lines_of, read, show, shown_condition, shown_expression
from soundlooks.trees import is_program
from tests.helper import I, LESS, NUM, ONE, RICH, nested, part, paths_in, program_of, refused

W = ("name", "w")
SIGNS = ("+", "-", "*", "div", "mod")
RICH_TEXT = """num g;
row 3 r;
word 4 w;
proc main() {
  num i;
  row 8 s;
  i = -r[i] + 7;
  s[i - 1] = g * (i div (i mod 20));
  ask g from any to any;
  ask w from -3 to 30;
  if (not i < 1 and [i <= 1 or i == 1]) {
    while (i != 1) {
      give i;
    }
  } else {
    check (i < 1);
    give 1;
  }
  call sub(i, s[1]);
  w = call main();
}
proc sub(num a, word 16 b) {
  word 1 c;
  row 1 d;
  c = a;
}
"""


def body_text(*statements):
    """The shown lines of the statements of program_of."""
    return show(program_of(*statements)).split("\n")[4:-4]


class Statements(unittest.TestCase):
    def test_rich(self):
        self.assertEqual(show(RICH), RICH_TEXT)
        self.assertEqual(read(RICH_TEXT), RICH)

    def test_least_program(self):
        self.assertEqual(show(((), (("p", (), (), ()),))), "proc p() {\n}\n")

    def test_each_statement(self):
        for statement, text in (
            (("set", "i", ONE), "  i = 1;"),
            (("put", "r", ("+", I, ONE), W), "  r[i + 1] = w;"),
            (("put", "r", ("number", 0), ("minus", W)), "  r[0] = -w;"),
            (("ask", "i", None, None), "  ask i from any to any;"),
            (("ask", "i", None, 0), "  ask i from any to 0;"),
            (("ask", "w", -12, None), "  ask w from -12 to any;"),
            (("ask", "i", -2, -1), "  ask i from -2 to -1;"),
            (("call", None, "main", ()), "  call main();"),
            (("call", "i", "main", ()), "  i = call main();"),
            (("call", None, "one", (("-", I, ONE),)), "  call one(i - 1);"),
            (("call", "w", "one", (("minus", I),)), "  w = call one(-i);"),
            (("check", LESS), "  check (i < 1);"),
            (("check", ("not", LESS)), "  check (not i < 1);"),
            (("give", ("cell", "r", I)), "  give r[i];"),
            (("give", ("minus", ONE)), "  give -1;"),
            (("give", ("number", 10 ** 40 - 1)), "  give " + "9" * 40 + ";"),
        ):
            self.assertEqual(body_text(statement), [text])

    def test_blocks(self):
        give = ("give", I)
        self.assertEqual(body_text(("if", LESS, (), ())), ["  if (i < 1) {", "  }"])
        self.assertEqual(body_text(("if", LESS, (give,), ())), ["  if (i < 1) {", "    give i;", "  }"])
        self.assertEqual(
            body_text(("if", LESS, (), (give,))), ["  if (i < 1) {", "  } else {", "    give i;", "  }"])
        self.assertEqual(body_text(("while", ("or", LESS, LESS), ())), ["  while (i < 1 or i < 1) {", "  }"])
        self.assertEqual(
            body_text(("while", LESS, (("if", LESS, (), (("while", LESS, (give,)),)),)), give),
            ["  while (i < 1) {", "    if (i < 1) {", "    } else {", "      while (i < 1) {", "        give i;",
             "      }", "    }", "  }", "  give i;"])

    def test_several_arguments_and_params(self):
        procs = (("p", (), (("i", NUM),), (("call", None, "q", (I, ONE, ("+", I, I))),)),
                 ("q", (("a", NUM), ("b", ("word", 3)), ("c", ("word", 16))), (), ()))
        self.assertEqual(
            show((((("g", ("row", 8)), ("h", ("word", 1)))), procs)),
            "row 8 g;\nword 1 h;\nproc p() {\n  num i;\n  call q(i, 1, i + i);\n}\n"
            "proc q(num a, word 3 b, word 16 c) {\n}\n")

    def test_no_program(self):
        for call in (show, lines_of):
            refused(self, InvalidProgram, {"place": (1,)}, call, ((), ()))
            refused(self, InvalidProgram, {"place": ()}, call, None)
            refused(self, InvalidProgram, {"place": (1, 0, 3, 0, 1, 1)}, call, program=program_of(("give", ("name", "q"))))


class Expressions(unittest.TestCase):
    def shows(self, value, text):
        self.assertEqual(shown_expression(program_of(), 0, value), text)
        self.assertEqual(body_text(("give", value)), ["  give " + text + ";"])

    def test_each(self):
        self.shows(("number", 0), "0")
        self.shows(I, "i")
        self.shows(("cell", "r", ("-", I, ("+", I, ONE))), "r[i - (i + 1)]")
        self.shows(("cell", "r", ("cell", "r", ("minus", I))), "r[r[-i]]")
        for sign in SIGNS:
            self.shows((sign, I, ONE), "i " + sign + " 1")

    def test_minus(self):
        self.shows(("minus", I), "-i")
        self.shows(("minus", ("minus", I)), "--i")
        self.shows(nested(I, 7), "-------i")
        self.shows(("minus", ("cell", "r", I)), "-r[i]")
        for sign in SIGNS:
            self.shows(("minus", (sign, I, ONE)), "-(i " + sign + " 1)")
            self.shows((sign, ("minus", I), ONE), "-i " + sign + " 1")
            self.shows((sign, ONE, ("minus", I)), "1 " + sign + " -i")
            self.shows((sign, ("minus", I), ("minus", W)), "-i " + sign + " -w")

    def test_each_pair_of_signs(self):
        bare_left = {
            "+": SIGNS, "-": SIGNS, "*": ("*", "div", "mod"), "div": ("*", "div", "mod"), "mod": ("*", "div", "mod"),
        }
        bare_right = {"+": ("*", "div", "mod"), "-": ("*", "div", "mod"), "*": (), "div": (), "mod": ()}
        for outer, inner in itertools.product(SIGNS, SIGNS):
            first, second = f"i {inner} w", f"w {inner} i"
            left = first if inner in bare_left[outer] else f"({first})"
            self.shows((outer, (inner, I, W), ONE), f"{left} {outer} 1")
            right = second if inner in bare_right[outer] else f"({second})"
            self.shows((outer, ONE, (inner, W, I)), f"1 {outer} {right}")
            self.shows((outer, (inner, I, W), (inner, W, I)), f"{left} {outer} {right}")

    def test_none_beyond_the_told_ones(self):
        self.shows(("-", ("-", I, ONE), W), "i - 1 - w")
        self.shows(("-", I, ("-", ONE, W)), "i - (1 - w)")
        self.shows(("*", ("minus", ("*", I, W)), ("minus", ("+", I, W))), "-(i * w) * -(i + w)")

    def test_deep(self):
        self.shows(nested(I, 7), "-" * 7 + "i")
        refused(self, InvalidProgram, {"place": (1,) * 8}, shown_expression, program_of(), 0, nested(I, 8))

    def test_wrong(self):
        for value, place in (
            (LESS, ()), (("not", LESS), ()), (None, ()), ("i", ()), (0, ()), ((), ()), (("name", "x"), (1,)),
            (("name", "r"), (1,)), (("cell", "i", ONE), (1,)), (("number", True), (1,)), (("number", -1), (1,)),
            (("+", ONE, ("*", I, ("name", "q"))), (2, 2, 1)), (("cell", "r", None), (2,)), (["name", "i"], ()),
        ):
            refused(self, InvalidProgram, {"place": place}, shown_expression, program_of(), 0, value)

    def test_sight_of_the_procedure(self):
        self.assertEqual(shown_expression(program_of(), 1, ("name", "x")), "x")
        refused(self, InvalidProgram, {"place": (1,)}, shown_expression, program_of(), 1, I)
        refused(self, InvalidProgram, {"place": (2, 1)}, shown_condition, program_of(), 1, ("<", ONE, I))

    def test_no_index(self):
        for call in (shown_expression, shown_condition):
            for given in (2, -1, True, None, "0", (), [0]):
                refused(self, InvalidIndex, {"given": given}, call, program_of(), given, None)


class Conditions(unittest.TestCase):
    def shows(self, value, text):
        self.assertEqual(shown_condition(program_of(), 0, value), text)
        self.assertEqual(body_text(("check", value)), ["  check (" + text + ");"])

    def test_comparisons(self):
        for sign in ("<", "<=", "==", "!="):
            self.shows((sign, I, ONE), "i " + sign + " 1")
            self.shows((sign, ("+", I, ONE), ("-", I, ONE)), "i + 1 " + sign + " i - 1")
            self.shows(("not", (sign, I, ONE)), "not i " + sign + " 1")
            for word in ("and", "or"):
                self.shows((word, (sign, I, ONE), (sign, W, I)), f"i {sign} 1 {word} w {sign} i")

    def test_not(self):
        self.shows(("not", ("not", LESS)), "not not i < 1")
        self.shows(("and", ("not", LESS), ("not", LESS)), "not i < 1 and not i < 1")
        self.shows(("or", ("not", LESS), ("not", LESS)), "not i < 1 or not i < 1")
        self.shows(("not", ("and", LESS, LESS)), "not [i < 1 and i < 1]")
        self.shows(("not", ("or", LESS, LESS)), "not [i < 1 or i < 1]")

    def test_each_pair_of_words(self):
        both, either = ("and", LESS, LESS), ("or", LESS, LESS)
        self.shows(("and", both, LESS), "i < 1 and i < 1 and i < 1")
        self.shows(("and", LESS, both), "i < 1 and [i < 1 and i < 1]")
        self.shows(("and", either, LESS), "[i < 1 or i < 1] and i < 1")
        self.shows(("and", LESS, either), "i < 1 and [i < 1 or i < 1]")
        self.shows(("or", both, LESS), "i < 1 and i < 1 or i < 1")
        self.shows(("or", LESS, both), "i < 1 or i < 1 and i < 1")
        self.shows(("or", either, LESS), "i < 1 or i < 1 or i < 1")
        self.shows(("or", LESS, either), "i < 1 or [i < 1 or i < 1]")

    def test_wrong(self):
        for value, place in (
            (I, ()), (("+", I, I), ()), (None, ()), ("i < 1", ()), (("<", I), ()), (("not", I), (1,)),
            (("and", LESS, ("<", I, ("name", "q"))), (2, 2, 1)), (("<", LESS, I), (1,)), (["not", LESS], ()),
        ):
            refused(self, InvalidProgram, {"place": place}, shown_condition, program_of(), 0, value)

    def test_deep(self):
        value = LESS
        for _ in range(6):
            value = ("not", value)
        self.shows(value, "not " * 6 + "i < 1")
        refused(self, InvalidProgram, {"place": (1,) * 8}, shown_condition, program_of(), 0, ("not", value))


class Lines(unittest.TestCase):
    def test_rich(self):
        at = (1, 0, 3)
        self.assertEqual(lines_of(RICH), (
            (at + (0,), 7), (at + (1,), 8), (at + (2,), 9), (at + (3,), 10), (at + (4,), 11), (at + (4, 2, 0), 12),
            (at + (4, 2, 0, 2, 0), 13), (at + (4, 3, 0), 16), (at + (4, 3, 1), 17), (at + (5,), 19), (at + (6,), 20),
            ((1, 1, 3, 0), 25)))

    def test_none(self):
        self.assertEqual(lines_of(program_of()), ())


class Made:
    """Trees made from a row of chances."""

    def __init__(self, seed):
        self.chance = random.Random(seed)

    def expression(self, depth):
        word = self.chance.choice(("number", "name") if depth == 8 else ("number", "name", "cell", "minus") + SIGNS)
        if word == "number":
            return (word, self.chance.choice((0, 1, 7, 10 ** 40 - 1)))
        if word == "name":
            return (word, self.chance.choice("iw"))
        if word == "cell":
            return (word, "r", self.expression(depth + 1))
        if word == "minus":
            return (word, self.expression(depth + 1))
        return (word, self.expression(depth + 1), self.expression(depth + 1))

    def condition(self, depth):
        words = ("<", "<=", "==", "!=")
        word = self.chance.choice(words if depth == 7 else words + ("not", "and", "or") * 2)
        if word in words:
            return (word, self.expression(depth + 1), self.expression(depth + 1))
        if word == "not":
            return (word, self.condition(depth + 1))
        return (word, self.condition(depth + 1), self.condition(depth + 1))

    def block(self, depth):
        return tuple(self.statement(depth) for _ in range(self.chance.choice((0, 1, 1, 2))))

    def statement(self, depth):
        word = self.chance.choice(("set", "put", "ask", "call", "check", "give", "if", "while", "if", "while"))
        if word == "set":
            return (word, "i", self.expression(5))
        if word == "put":
            return (word, "r", self.expression(6), self.expression(6))
        if word == "ask":
            return (word, "w", self.chance.choice((None, -5, 0)), self.chance.choice((None, 0, 9)))
        if word == "call":
            return (word, self.chance.choice((None, "i")), "one", (self.expression(6),))
        if word == "check":
            return (word, self.condition(4))
        if word == "give" or depth == 8:
            return ("give", self.expression(5))
        if word == "if":
            return (word, self.condition(5), self.block(depth + 1), self.block(depth + 1))
        return (word, self.condition(5), self.block(depth + 1))


class Promises(unittest.TestCase):
    def programs(self):
        found = [RICH]
        for seed in range(300):
            program = program_of(*Made(seed).block(1), *Made(-seed).block(1))
            if is_program(program):
                found.append(program)
        self.assertGreater(len(found), 200)
        return found

    def test_what_is_shown_is_read_as_the_same(self):
        for program in self.programs():
            self.assertEqual(read(show(program)), program)

    def test_unlike_programs_have_unlike_texts(self):
        programs = set(self.programs())
        self.assertEqual(len({show(program) for program in programs}), len(programs))

    def test_showing_settles(self):
        for text in (RICH_TEXT, "proc p(){num i;i=((i));if(i<-0){}else{}check([[i==1]]);ask i from -0 to any;}# x"):
            once = show(read(text))
            self.assertEqual(read(once), read(text))
            self.assertEqual(show(read(once)), once)

    def test_lines(self):
        for program in self.programs():
            shown = show(program)
            self.assertTrue(shown.endswith("}\n"))
            rows = shown.split("\n")
            told = lines_of(program)
            statements = [path for path in paths_in(program) if self.is_statement(program, path)]
            self.assertEqual([path for path, _ in told], statements)
            for path, line in told:
                word = part(program, path)[0]
                begins = {"set": "i =", "put": "r", "call": ("call", "i = call", "w = call"), "ask": "ask "}
                if program != RICH:
                    self.assertTrue(rows[line - 1].lstrip().startswith(begins.get(word, word)))
                deep = len([at for at in path[3::2]])
                self.assertEqual(len(rows[line - 1]) - len(rows[line - 1].lstrip()), 2 * deep)
            self.assertEqual([line for _, line in told], sorted({line for _, line in told}))

    def is_statement(self, program, path):
        """By the form of a path: behind a body or block, with a block at each second index."""
        if len(path) < 4 or path[2] != 3 or len(path) % 2 != 0:
            return False
        for many in range(4, len(path), 2):
            above = part(program, path[:many])
            if above[0] not in ("if", "while") or path[many] == 1:
                return False
        return True

    def test_each_bracket_is_needed(self):
        made = Made(7)
        asked = 0
        for _ in range(400):
            value = made.expression(4)
            text = shown_expression(program_of(), 0, value)
            for bare in without_brackets(text, "()"):
                asked += 1
                self.assertNotEqual(read_back(f"give {bare};"), ("give", value))
        for _ in range(400):
            value = made.condition(4)
            text = shown_condition(program_of(), 0, value)
            for bare in without_brackets(text, "()") + without_brackets(text, "[]"):
                asked += 1
                self.assertNotEqual(read_back(f"check ({bare});"), ("check", value))
        self.assertGreater(asked, 1000)


def without_brackets(text, pair):
    """The text with one pair of brackets left out, for each such pair but those of cells."""
    found = []
    for at, sign in enumerate(text):
        if sign == pair[0] and (at == 0 or text[at - 1] != "r"):
            depth, end = 1, at
            while depth > 0:
                end += 1
                depth += (text[end] == pair[0]) - (text[end] == pair[1])
            found.append(text[:at] + " " + text[at + 1:end] + " " + text[end + 1:])
    return found


def read_back(text):
    """The statement that is read from a text; None for a bad one."""
    try:
        return read("proc p() { num i; word 3 w; row 2 r; " + text + " }")[1][0][3][0]
    except ValueError:
        return None


if __name__ == "__main__":
    unittest.main()
