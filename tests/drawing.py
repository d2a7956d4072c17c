"""Draws programs, inputs and states by a seed."""

import random

from soundlooks import trees

SIGNS = ("+", "-", "*", "div", "mod")
COMPARISONS = ("<", "<=", "==", "!=")


class Drawer:
    """Draws parts of programs; how far they go is set by what it is made with."""

    def __init__(self, seed, procs=3, statements=7, deep=3, wide=2, kinds=("num", "word", "row"), tame=False):
        self.random = random.Random(seed)
        # Tame programs seldom fail, and their loops count.
        self.tame = tame
        self.procs = procs
        self.statements = statements
        self.deep = deep
        self.wide = wide
        self.kinds = kinds

    def choose(self, *told):
        return self.random.choice(told)

    def number(self):
        return self.choose(0, 1, 1, 2, 3, 5, 7, 8, 16)

    def kind(self, kinds):
        word = self.random.choice(kinds)
        if word == "num":
            return ("num",)
        return (word, self.random.randint(1, 3)) if word == "row" else (word, self.choose(1, 2, 4, 8))

    def pairs(self, names, most, kinds):
        least = 1 if self.tame else 0
        chosen = names[:self.random.randint(least, most)]
        return tuple((name, self.kind(kinds)) for name in chosen)

    def program(self):
        flat = tuple(kind for kind in self.kinds if kind != "row")
        shared = self.pairs(("g", "h"), 2, self.kinds)
        heads = []
        for index in range(self.random.randint(1, self.procs)):
            params = () if index == 0 else self.pairs(("a", "b"), 2, flat)
            own = self.pairs(("x", "y", "z"), self.wide, flat if len(shared) + self.wide > 4 else self.kinds)
            heads.append((("main", "f", "k")[index], params, own))
        self.left = 40
        return shared, tuple(head + (self.body(shared, heads, head),) for head in heads)

    def body(self, shared, heads, head):
        pairs = shared + head[1] + head[2]
        self.numbers = [name for name, kind in pairs if kind[0] != "row"]
        self.rows = [name for name, kind in pairs if kind[0] == "row"]
        self.heads = heads
        return self.block(1, self.statements)

    def block(self, depth, most):
        found = []
        for _ in range(self.random.randint(0, most)):
            if self.left > 0:
                self.left -= 1
                found.append(self.statement(depth))
        return tuple(found)

    def statement(self, depth):
        if self.tame and self.numbers and self.random.random() < 0.9:
            return self.tame_statement(depth)
        words = ["check"] + ["call"] * 2 + ["give"] * (depth > 1)
        words += ["set"] * 6 + ["ask"] * 2 if self.numbers else []
        words += ["put"] * 2 if self.rows else []
        words += ["if", "while"] * 2 if depth < self.deep else []
        word = self.random.choice(words)
        if word == "if":
            return ("if", self.condition(3), self.block(depth + 1, 3), self.block(depth + 1, 2))
        if word == "while":
            return ("while", self.condition(3), self.block(depth + 1, 3))
        if word == "check":
            return ("check", self.condition(2))
        if word == "give":
            return ("give", self.expression(2))
        if word == "set":
            return ("set", self.random.choice(self.numbers), self.expression(3))
        if word == "put":
            return ("put", self.random.choice(self.rows), self.expression(1), self.expression(2))
        if word == "ask":
            low = self.choose(None, -2, 0, 1)
            high = self.choose(None, 1, 3, 40)
            return ("ask", self.random.choice(self.numbers), low, high)
        head = self.random.choice(self.heads)
        aim = self.random.choice([None] + self.numbers)
        return ("call", aim, head[0], tuple(self.expression(2) for _ in head[1]))

    def tame_statement(self, depth):
        name = self.random.choice(self.numbers)
        one, other = ("name", name), ("name", self.random.choice(self.numbers))
        by = self.choose(("number", self.number()), ("number", 1), other)
        bound = self.choose(("number", self.number() + 5), ("number", 10), other)
        word = self.choose("set", "set", "set", "ask", "if", "while", "put", "give", "call")
        if word == "call":
            head = self.random.choice(self.heads)
            return ("call", self.choose(name, None), head[0], tuple(self.choose(one, by, ("-", one, ("number", 1))) for _ in head[1]))
        if word == "ask":
            return ("ask", name, self.choose(None, 0, 1, -3), self.choose(None, 2, 9, 50))
        if word == "put" and self.rows:
            return ("put", self.random.choice(self.rows), self.choose(("number", 0), one), by)
        if word == "give" and depth > 1:
            return ("give", self.choose(one, by, ("+", one, by)))
        sign = self.choose("<", "<=", "!=", "==")
        if word == "if" and depth < self.deep:
            return ("if", (sign, one, bound), self.block(depth + 1, 2), self.block(depth + 1, 2))
        if word == "while" and depth < self.deep:
            count = ("set", name, ("+", one, ("number", self.choose(1, 1, 2, 3))))
            return ("while", (self.choose("<", "<="), one, bound), self.block(depth + 1, 2) + (count,))
        made = self.choose(("+", one, by), ("-", one, by), by, ("+", other, by), ("*", other, ("number", 2)), ("mod", other, ("number", 6)),
                           ("div", other, ("number", 3)), ("-", other, ("*", ("number", 3), by)))
        return ("set", name, made)

    def expression(self, deep):
        words = ["number"] * 2 + ["name"] * 4 * bool(self.numbers)
        if deep > 1:
            words += ["minus", "+", "+", "-", "*", "div", "mod"] + ["cell"] * 2 * bool(self.rows)
        word = self.random.choice(words)
        if word == "number":
            return ("number", self.number())
        if word == "name":
            return ("name", self.random.choice(self.numbers))
        if word == "cell":
            return ("cell", self.random.choice(self.rows), self.expression(deep - 1))
        if word == "minus":
            return ("minus", self.expression(deep - 1))
        return (word, self.expression(deep - 1), self.expression(deep - 1))

    def condition(self, deep):
        word = self.choose("atom", "atom", "not", "and", "or") if deep > 1 else "atom"
        if word == "not":
            return ("not", self.condition(deep - 1))
        if word == "atom":
            return (self.choose(*COMPARISONS), self.expression(2), self.expression(2))
        return (word, self.condition(deep - 1), self.condition(deep - 1))

    def inputs(self, most):
        return tuple(self.random.choice((0, 1, 1, 2, 3, -1, 30, 41)) for _ in range(self.random.randint(0, most)))


def drawn_programs(seed, many, **told):
    """So many drawn programs."""
    drawer = Drawer(seed, **told)
    found = [drawer.program() for _ in range(many)]
    assert all(trees.wrong_in(program) is None for program in found)
    return found
