"""[A7], [A8]: which texts are read, as which trees, and the one place at which a text is bad."""

import random
import re
import unittest

from soundlooks.errors import InvalidProgram, InvalidText
from soundlooks.text import read
from tests.helper import I, LESS, NUM, ONE, refused

# The grammar as it is told, {..} and [..] being written out; capitals are kinds of tokens.
GRAMMAR = """
text: decls proc procs
decls: | decl decls
decl: kind NAME ;
kind: num | word NUMBER | row NUMBER
procs: | proc procs
proc: @proc NAME ( params ) { decls statements }
params: | kind NAME more
more: | , kind NAME more
statements: | statement statements
statement: NAME = e ; | NAME [ e ] = e ; | NAME = call ; | call ; | ask NAME from bound to bound ;
statement: @if ( c ) block otherwise | @while ( c ) block | @check ( c ) ; | @give e ;
otherwise: | @else block
call: @call NAME ( given )
given: | e others
others: | , e others
block: { statements }
bound: any | NUMBER | - NUMBER
e: term sums
sums: | + term sums | - term sums
term: unary products
products: | * unary products | div unary products | mod unary products
unary: - unary | NUMBER | NAME | NAME [ e ] | ( e )
c: conj ors
ors: | or conj ors
conj: prime ands
ands: | and prime ands
prime: not prime | [ c ] | e sign e
sign: < | <= | == | !=
"""
RULES = {}
for line in GRAMMAR.strip().split("\n"):
    head, told = line.split(":")
    RULES.setdefault(head, []).extend(tuple(case.split()) for case in told.split("|"))
LANGUAGE = "num word row proc ask from to any if else while call check give given div mod not and or".split()
TOKEN = re.compile(
    r"[a-z][a-z0-9]{0,11}(?![a-z0-9])|0(?![a-z0-9])|[1-9][0-9]{0,39}(?![a-z0-9])|==|!=|<=|[(){}\[\],;=<+*-]")
BETWEEN = re.compile(r"(?:[ \n]|#[^\n]*)*")
BROKEN = re.compile(r"[a-z][a-z0-9]{11}|0|[1-9][0-9]{0,39}|")


def cut_anew(text):
    """The tokens of a text with their indexes, and the index of the first bad sign or of the end."""
    found = []
    at = BETWEEN.match(text, 0).end()
    while at < len(text):
        token = TOKEN.match(text, at)
        if token is None:
            return found, BROKEN.match(text, at).end()
        found.append((token.group(), at))
        at = BETWEEN.match(text, token.end()).end()
    return found, len(text)


def fits(symbol, token):
    if symbol == "NUMBER":
        return token[0].isdigit()
    if symbol == "NAME":
        return token[0].isalpha() and token not in LANGUAGE
    return symbol.lstrip("@") == token


def widened(stacks):
    """All stacks that stand for the same, each empty or with a token's symbol on top."""
    found, waiting = set(), list(stacks)
    while waiting:
        stack = waiting.pop()
        if stack == () or stack[0] not in RULES:
            found.add(stack)
        else:
            waiting.extend(case + stack[1:] for case in RULES[stack[0]])
    return found


def bad_index(text):
    """The index of the sign at which a text is bad, by the grammar as it stands; None for a text."""
    found, end = cut_anew(text)
    stacks = widened([("text",)])
    for token, at in found:
        stacks = widened([stack[1:] for stack in stacks if stack != () and fits(stack[0], token)])
        if not stacks:
            return at
    if end < len(text):
        return end
    return None if () in stacks else end


def place_of(text, index):
    ahead = text[:index].split("\n")
    return len(ahead), len(ahead[-1]) + 1


SAMPLES = (
    "num best; proc main() { num i; i = 0; while (i < 3) { i = i + 1; } check (i == 3); }",
    "word 3 w;\nrow 8 xs;\n# a note\nproc p() { row 2 ys; xs[w - 1] = -ys[xs[0]] * (w + 5) mod 7; }",
    "proc p() {} proc q(num a, word 16 b) { num c; c = call q(a, -b); call p(); give a div b; }",
    "proc p() { num x; ask x from any to -5; ask x from -0 to any; ask x from 1 to 2; }",
    "proc p() { num x; if (not [x < 1 or x <= 2] and x != 3) { give x; } else { if (x == 1) { } } }",
    "proc p() {\n  num x;\n  if ([[x < 1]] and not not (x) < x or (x) * 2 == 1) {\n  }\n  give x;\n}\n",
)
VOCABULARY = (
    LANGUAGE + "( ) { } [ ] , ; = == != < <= + - *".split()
    + ["x", "p", "0", "7", "!", "007", "1a", "abcdefghijklm", "A", "number"])


class Places(unittest.TestCase):
    def asks(self, text):
        """Asks that a text is read, or refused, as the grammar as it stands tells."""
        index = bad_index(text)
        if index is None:
            try:
                read(text)
            except InvalidProgram:
                pass
        else:
            line, column = place_of(text, index)
            refused(self, InvalidText, {"line": line, "column": column}, read, text)

    def test_samples_are_texts(self):
        for text in SAMPLES:
            self.assertIsNone(bad_index(text))
            read(text)

    def cuts(self, text):
        """The text's tokens, each with what stands ahead of it, and what stands behind them."""
        found, _ = cut_anew(text)
        ends = [0] + [at + len(token) for token, at in found]
        pieces = [(text[ends[at]:index], token) for at, (token, index) in enumerate(found)]
        return pieces, text[ends[-1]:]

    def test_one_token_left_out(self):
        for text in SAMPLES:
            pieces, rest = self.cuts(text)
            for at in range(len(pieces)):
                kept = pieces[:at] + [(pieces[at][0], " ")] + pieces[at + 1:]
                self.asks("".join(a + b for a, b in kept) + rest)

    def test_one_token_too_many(self):
        for text in SAMPLES:
            pieces, rest = self.cuts(text)
            for at in range(len(pieces) + 1):
                for word in VOCABULARY:
                    more = pieces[:at] + [(" ", word), (" ", "")] + pieces[at:]
                    self.asks("".join(a + b for a, b in more) + rest)

    def test_one_token_exchanged(self):
        for text in SAMPLES:
            pieces, rest = self.cuts(text)
            for at in range(len(pieces)):
                for word in VOCABULARY:
                    other = pieces[:at] + [(pieces[at][0], " " + word + " ")] + pieces[at + 1:]
                    self.asks("".join(a + b for a, b in other) + rest)

    def test_the_end_too_early(self):
        for text in SAMPLES:
            for at in range(len(text) + 1):
                for behind in ("", "\n", " ", "\n\n ", " # note", "# note\n", "\n!", "A"):
                    self.asks(text[:at] + behind)

    def test_any_signs(self):
        chance = random.Random(3)
        for _ in range(3000):
            signs = list(chance.choice(SAMPLES))
            for _ in range(chance.choice((1, 1, 2, 3))):
                at = chance.randrange(len(signs))
                signs[at:at + chance.choice((0, 1, 2))] = chance.choice(" \n#!ax019(){}[];,=<+-*A\t")
            self.asks("".join(signs))

    def test_any_tokens(self):
        chance = random.Random(5)
        for _ in range(3000):
            words = [chance.choice(VOCABULARY) for _ in range(chance.randrange(12))]
            self.asks("proc p ( ) { x = " + " ".join(words))
            self.asks("proc p ( ) { check ( " + " ".join(words))
            self.asks("proc p ( ) { " + " ".join(words))
            self.asks(" ".join(words))


class Bad(unittest.TestCase):
    """Places told by hand."""

    def bad(self, text, line, column):
        refused(self, InvalidText, {"line": line, "column": column}, read, text)

    def inside(self, text, column):
        """Within a procedure, the column being counted from the text's first sign on."""
        self.bad("proc p() {" + text, 1, 10 + column)

    def test_too_early(self):
        self.bad("", 1, 1)
        self.bad("\n", 2, 1)
        self.bad("   ", 1, 4)
        self.bad("# note", 1, 7)
        self.bad("# note\n", 2, 1)
        self.bad("num a;", 1, 7)
        self.bad("proc p() {\n", 2, 1)
        self.bad("proc p() {\n} proc", 2, 7)
        self.bad("proc p() {\n\n  x = 1", 3, 8)

    def test_no_procedure(self):
        self.bad("x = 1;", 1, 1)
        self.bad("num a; num b; }", 1, 15)
        self.bad("proc p() { } num a;", 1, 14)
        self.bad("proc p() { } }", 1, 14)
        self.bad("proc p() { }; ", 1, 13)

    def test_decls(self):
        self.bad("num;", 1, 4)
        self.bad("num 3 a;", 1, 5)
        self.bad("word a;", 1, 6)
        self.bad("row 3;", 1, 6)
        self.bad("row -3 a;", 1, 5)
        self.bad("num a, b;", 1, 6)
        self.bad("num a = 1;", 1, 7)
        self.bad("num num;", 1, 5)
        self.bad("num given;", 1, 5)
        self.bad("num a proc p() { }", 1, 7)

    def test_procedures(self):
        self.bad("proc p( {", 1, 9)
        self.bad("proc {", 1, 6)
        self.bad("proc if() { }", 1, 6)
        self.bad("proc p { }", 1, 8)
        self.bad("proc p(a) { }", 1, 8)
        self.bad("proc p(num) { }", 1, 11)
        self.bad("proc p(num a,) { }", 1, 14)
        self.bad("proc p(num a num b) { }", 1, 14)
        self.bad("proc p(num a;) { }", 1, 13)
        self.bad("proc p(,num a) { }", 1, 8)
        self.bad("proc p() num a;", 1, 10)
        self.bad("proc p() { x = 1; num a; }", 1, 19)
        self.bad("proc p() { { } }", 1, 12)
        self.bad("proc p() { ; }", 1, 12)

    def test_statements(self):
        for text, column in (
            ("x;", 2), ("x + 1;", 3), ("x == 1;", 3), ("x = ;", 5), ("x = 1", 6), ("x = 1 y", 7), ("1 = x;", 1),
            ("x[1];", 5), ("x[] = 1;", 3), ("x[1 = 1;", 5), ("x[1] = call p();", 8), ("x[1]] = 1;", 5),
            ("x = call;", 9), ("x = call p;", 11), ("x = call p() + 1;", 14), ("call 1();", 6), ("call p(;", 8),
            ("call p(1,);", 10), ("call p(1 2);", 10), ("call p(1, call p());", 11), ("call p()", 9), ("call;", 5),
            ("ask x;", 6), ("ask 1 from 0 to 1;", 5), ("ask x from to 1;", 12), ("ask x from 0;", 13),
            ("ask x from 0 to;", 16), ("ask x from - to 1;", 14), ("ask x from --1 to 1;", 13),
            ("ask x from x to 1;", 12), ("ask x from (1) to 1;", 12), ("ask x to 1;", 7), ("ask x from -any", 13),
            ("ask x from 0 to 1 2;", 19), ("ask r[0] from 0 to 1;", 6), ("if x < 1 { }", 4), ("if (x) { }", 6),
            ("if () { }", 5), ("if (x < 1) give 1;", 12), ("if (x < 1) { } else give 1;", 21),
            ("if (x < 1) { } else if (x < 2) { }", 21), ("else { }", 1), ("if (x < 1) { } else { } else { }", 25),
            ("while (x < 1) ;", 15), ("while (1) { }", 9), ("while (x < 1) { } else { }", 19), ("check x < 1;", 7),
            ("check (x < 1)", 14), ("check (x < 1) }", 15), ("check (x) < 1;", 9), ("give;", 5), ("give call p();", 6),
            ("give 1", 7), ("give x < 1;", 8), ("give 5 007;", 9), ("give 007;", 7), ("given 1;", 1), ("from", 1),
            ("x = 1 ! ;", 7), ("x = ! 1;", 5), ("! x = 1;", 1), ("x = 1; !", 8), ("x y !", 3),
        ):
            self.inside(text, column)

    def test_expressions(self):
        for text, column in (
            ("+1", 1), ("1 +", 4), ("1 + + 2", 5), ("1 * * 2", 5), ("1 - * 2", 5), ("1 div", 6), ("div 1", 1),
            ("1 mod mod 1", 7), ("()", 2), ("(1", 3), ("(1 2)", 4), ("1)", 2), ("x[", 3), ("x[1", 4), ("x[1][2]", 5),
            ("x(1)", 2), ("[1]", 1), ("not x", 1), ("x and y", 3), ("x y", 3), ("1 x", 3), ("-", 2), ("--", 3),
            ("any", 1), ("1 = 2", 3), ("1[2]", 2), ("(1)[2]", 4),
        ):
            tail = "" if column > len(text) else ";"
            self.inside("give " + text + tail, 5 + column)

    def test_conditions(self):
        for text, column in (
            ("1", 2), ("1 < 2 < 3", 7), ("x =< 1", 3), ("x = 1", 3), ("not", 4), ("and x < 1", 1), ("x < 1 and", 10),
            ("x < 1 or", 9), ("x < 1 or or x < 1", 10), ("[x < 1", 7), ("[x]", 3), ("[]", 2), ("[x < 1] < 1", 9),
            ("(x < 1)", 4), ("not (x < 1)", 8), ("x < not 1", 5), ("x < [1]", 5), ("not and x < 1", 5), ("x <", 4),
            ("x < 1 x < 1", 7), ("x < 1 + and", 9), ("[x < 1) or", 7), ("x < 1]", 6),
        ):
            self.inside("check (" + text + ");", 7 + column)

    def test_a_bad_sign_behind_a_whole_text(self):
        self.bad("proc p() { } !", 1, 14)
        self.bad("proc p() { }\n007", 2, 2)
        self.bad("proc p() { } x 007", 1, 14)

    def test_what_is_broken_off_is_no_token(self):
        self.bad("abcdefghijklm", 1, 13)
        self.bad("proc p() { x = 1 " + "a" * 13, 1, 30)
        self.bad("5 " + "1" * 41, 1, 1)
        self.bad("1a", 1, 2)


class Read(unittest.TestCase):
    """Texts that are read, as the trees told by hand."""

    def body(self, text):
        return read("proc p() { num i; row 2 r; " + text + " } proc q(num a) { }")[1][0][3]

    def gives(self, text, value):
        self.assertEqual(self.body("give " + text + ";"), (("give", value),))

    def checks(self, text, value):
        self.assertEqual(self.body("check (" + text + ");"), (("check", value),))

    def test_least(self):
        self.assertEqual(read("proc p(){}"), ((), (("p", (), (), ()),)))
        self.assertEqual(read("#\n proc\np\n(\n)\n{\n}\n#"), ((), (("p", (), (), ()),)))
        self.assertEqual(read(text="proc p(){}"), ((), (("p", (), (), ()),)))

    def test_decls_and_params(self):
        self.assertEqual(
            read("num a;word 16 b;row 8 c;proc p(){num d;row 1 e;}proc q(num f,word 1 g){word 2 h;}"),
            ((("a", NUM), ("b", ("word", 16)), ("c", ("row", 8))),
             (("p", (), (("d", NUM), ("e", ("row", 1))), ()),
              ("q", (("f", NUM), ("g", ("word", 1))), (("h", ("word", 2)),), ()))))

    def test_statements(self):
        self.assertEqual(
            self.body("i=1;r[i]=1;i=call q(i);call q(1);call p();i=call p();check(i<1);give i;"),
            (("set", "i", ONE), ("put", "r", I, ONE), ("call", "i", "q", (I,)), ("call", None, "q", (ONE,)),
             ("call", None, "p", ()), ("call", "i", "p", ()), ("check", LESS), ("give", I)))

    def test_asks(self):
        self.assertEqual(
            self.body("ask i from any to any; ask i from -7 to 7; ask i from - 0 to any; ask i from any to - 3;"),
            (("ask", "i", None, None), ("ask", "i", -7, 7), ("ask", "i", 0, None), ("ask", "i", None, -3)))

    def test_blocks(self):
        give = ("give", I)
        self.assertEqual(
            self.body("if (i < 1) { } if (i < 1) { give i; } else { } if (i < 1) { } else { give i; give i; }"),
            (("if", LESS, (), ()), ("if", LESS, (give,), ()), ("if", LESS, (), (give, give))))
        self.assertEqual(
            self.body("while (i < 1) { while (i < 1) { give i; } give i; }"),
            (("while", LESS, (("while", LESS, (give,)), give)),))

    def test_expressions(self):
        self.gives("i", I)
        self.gives("0", ("number", 0))
        self.gives("9" * 40, ("number", 10 ** 40 - 1))
        self.gives("r[i+1]", ("cell", "r", ("+", I, ONE)))
        self.gives("((i))", I)
        self.gives("--i", ("minus", ("minus", I)))
        self.gives("-1", ("minus", ONE))
        for first in ("+", "-"):
            for second in ("+", "-"):
                self.gives(f"i {first} 1 {second} i", (second, (first, I, ONE), I))
                self.gives(f"i {first} (1 {second} i)", (first, I, (second, ONE, I)))
            for second in ("*", "div", "mod"):
                self.gives(f"i {first} 1 {second} i", (first, I, (second, ONE, I)))
                self.gives(f"i {second} 1 {first} i", (first, (second, I, ONE), I))
                self.gives(f"(i {first} 1) {second} i", (second, (first, I, ONE), I))
        for first in ("*", "div", "mod"):
            for second in ("*", "div", "mod"):
                self.gives(f"i {first} 1 {second} i", (second, (first, I, ONE), I))
            self.gives(f"-i {first} - 1", (first, ("minus", I), ("minus", ONE)))
            self.gives(f"-(i {first} 1)", ("minus", (first, I, ONE)))

    def test_conditions(self):
        for sign in ("<", "<=", "==", "!="):
            self.checks(f"i{sign}1", (sign, I, ONE))
            self.checks(f"(i) + 1 {sign} (1)", (sign, ("+", I, ONE), ONE))
        self.checks("i < 1 and i < 1 and i < 1", ("and", ("and", LESS, LESS), LESS))
        self.checks("i < 1 or i < 1 or i < 1", ("or", ("or", LESS, LESS), LESS))
        self.checks("i < 1 or i < 1 and i < 1", ("or", LESS, ("and", LESS, LESS)))
        self.checks("i < 1 and i < 1 or i < 1", ("or", ("and", LESS, LESS), LESS))
        self.checks("i < 1 and [i < 1 or i < 1]", ("and", LESS, ("or", LESS, LESS)))
        self.checks("not i < 1 and i < 1", ("and", ("not", LESS), LESS))
        self.checks("not [i < 1 and i < 1]", ("not", ("and", LESS, LESS)))
        self.checks("not not[[i < 1]]", ("not", ("not", LESS)))

    def test_many_brackets_and_minus(self):
        self.gives("(" * 28 + "i" + ")" * 28, I)
        self.checks("[" * 27 + "i < 1" + "]" * 27, LESS)
        refused(self, InvalidProgram, {"place": (1, 0, 3, 0) + (1,) * 9}, self.body, "give " + "-" * 30 + "i;")
        refused(self, InvalidProgram, {"place": (1, 0, 3, 0) + (1,) * 9}, self.body, "check (" + "not " * 30 + "i < 1);")
        refused(self, InvalidProgram, {"place": (1, 0, 3, 0) + (2, 0) * 8}, self.body,
                "while (i < 1) { " * 28 + "}" * 28)

    def test_a_long_text(self):
        text = "proc p() { num i;" + " " * 9000 + "\n" * 9000 + "# x" + "\n" + "i = 1;" * 60 + " }"
        self.assertEqual(len(read(text)[1][0][3]), 60)
        refused(self, InvalidText, {"line": 9002, "column": 363}, read, text + "!")


class NoPrograms(unittest.TestCase):
    """Texts of the grammar whose trees are no programs."""

    def test_paths(self):
        for text, path in (
            ("proc p() { q = 1; }", (1, 0, 3, 0, 1)),
            ("num a; num a; proc p() { }", (0, 1, 0)),
            ("word 0 a; proc p() { }", (0, 0, 1)),
            ("word 17 a; proc p() { }", (0, 0, 1)),
            ("row 9 a; proc p() { }", (0, 0, 1)),
            ("proc p(num a) { }", (1, 0, 1)),
            ("proc p() { } proc q(row 1 a) { }", (1, 1, 1, 0, 1)),
            ("proc p() { } proc p() { }", (1, 1, 0)),
            ("proc a() {} proc b() {} proc c() {} proc d() {} proc e() {} proc f() {} proc g() {}", (1,)),
            ("num a;num b;num c;num d;num e;num f;num g;num h;proc p() { num i; }", (1, 0, 2, 0)),
            ("proc p() { row 1 r; r = 1; }", (1, 0, 3, 0, 1)),
            ("proc p() { num i; i[0] = 1; }", (1, 0, 3, 0, 1)),
            ("proc p() { num i; ask i from 3 to 2; }", (1, 0, 3, 0, 3)),
            ("proc p() { call q(); }", (1, 0, 3, 0, 2)),
            ("proc p() { call p(1); }", (1, 0, 3, 0, 3)),
            ("proc p() { num i; i = call i(); }", (1, 0, 3, 0, 2)),
            ("proc p() { give i; }", (1, 0, 3, 0, 1, 1)),
            ("proc p() { num i; give i[0]; }", (1, 0, 3, 0, 1, 1)),
            ("proc p() { if (1 < 2) { } else { give i; } }", (1, 0, 3, 0, 3, 0, 1, 1)),
            ("proc p() { " + "give 1;" * 61 + " }", (1, 0, 3, 60)),
            ("proc p() { give 1 + 1 + 1 + 1 + 1 + 1 + 1 + 1; }", None),
            ("proc p() { give 1 + 1 + 1 + 1 + 1 + 1 + 1 + 1 + 1; }", (1, 0, 3, 0) + (1,) * 9),
        ):
            if path is None:
                read(text)
            else:
                refused(self, InvalidProgram, {"place": path}, read, text)

    def test_the_grammar_is_asked_first(self):
        refused(self, InvalidText, {"line": 1, "column": 21}, read, "proc p() { q = 1; } !")
        refused(self, InvalidText, {"line": 1, "column": 19}, read, "word 99 a; proc p(9) { }")


if __name__ == "__main__":
    unittest.main()
