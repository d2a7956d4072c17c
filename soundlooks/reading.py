"""Reads tokens as a tree, by the grammar."""

from soundlooks.basics import COMPARISONS, is_name
from soundlooks.errors import InvalidText

KIND_WORDS = ("num", "word", "row")


class Reader:
    """Goes along tokens, from the first one on; behind the last one stands what ends them."""

    def __init__(self, cut_tokens, end):
        self.cut_tokens = cut_tokens
        self.end = end
        self.at = 0

    def ahead(self):
        """The text of the next token; the empty text behind the last one."""
        if self.at < len(self.cut_tokens):
            return self.cut_tokens[self.at][0]
        return ""

    def refuse(self):
        """Raises InvalidText for the place of the next token, or of the end."""
        line, column = self.end
        if self.at < len(self.cut_tokens):
            _, line, column = self.cut_tokens[self.at]
        raise InvalidText(line, column)

    def go_on(self):
        """Passes the next token; returns its text."""
        told = self.ahead()
        self.at += 1
        return told

    def expect(self, told):
        """Passes the next token, which has to be this one."""
        if self.ahead() != told:
            self.refuse()
        self.at += 1

    def take_name(self):
        """Passes a name; returns it."""
        if not is_name(self.ahead()):
            self.refuse()
        return self.go_on()

    def take_figures(self):
        """Passes a run of figures; returns its number."""
        if not self.ahead().isdigit():
            self.refuse()
        return int(self.go_on())


def read_tree(reader):
    """The tree of a text, read up to the last token."""
    shared = read_decls(reader)
    procs = [read_proc(reader)]
    while reader.ahead() == "proc":
        procs.append(read_proc(reader))
    if reader.ahead() != "":
        reader.refuse()
    return shared, tuple(procs)


def read_decls(reader):
    """The pairs of the decls that stand next."""
    pairs = []
    while reader.ahead() in KIND_WORDS:
        pairs.append(read_pair(reader))
        reader.expect(";")
    return tuple(pairs)


def read_pair(reader):
    """A kind and a name, as a pair."""
    if reader.ahead() not in KIND_WORDS:
        reader.refuse()
    word = reader.go_on()
    kind = (word,)
    if word != "num":
        kind = (word, reader.take_figures())
    return reader.take_name(), kind


def read_proc(reader):
    """A procedure."""
    reader.expect("proc")
    name = reader.take_name()
    reader.expect("(")
    params = []
    if reader.ahead() != ")":
        params.append(read_pair(reader))
        while reader.ahead() == ",":
            reader.go_on()
            params.append(read_pair(reader))
    reader.expect(")")
    reader.expect("{")
    local_pairs = read_decls(reader)
    body = read_statements(reader)
    reader.expect("}")
    return name, tuple(params), local_pairs, body


def read_block(reader):
    """The statements of a block."""
    reader.expect("{")
    statements = read_statements(reader)
    reader.expect("}")
    return statements


def read_statements(reader):
    """The statements up to the bracket that ends them."""
    statements = []
    while reader.ahead() != "}":
        statements.append(read_statement(reader))
    return tuple(statements)


def read_statement(reader):
    """The statement that stands next."""
    word = reader.ahead()
    if word == "if":
        return read_if(reader)
    if word == "while":
        condition = read_bracketed(reader)
        return "while", condition, read_block(reader)
    if word == "check":
        statement = ("check", read_bracketed(reader))
    elif word == "give":
        reader.go_on()
        statement = ("give", read_sum(reader))
    elif word == "ask":
        statement = read_ask(reader)
    elif word == "call":
        statement = read_call(reader, None)
    else:
        statement = read_change(reader)
    reader.expect(";")
    return statement


def read_bracketed(reader):
    """The condition in brackets behind the next word."""
    reader.go_on()
    reader.expect("(")
    condition = read_condition(reader)
    reader.expect(")")
    return condition


def read_if(reader):
    """An if, with or without an else."""
    condition = read_bracketed(reader)
    chosen = read_block(reader)
    other = ()
    if reader.ahead() == "else":
        reader.go_on()
        other = read_block(reader)
    return "if", condition, chosen, other


def read_ask(reader):
    """An ask, up to its semicolon."""
    reader.expect("ask")
    name = reader.take_name()
    reader.expect("from")
    low = read_bound(reader)
    reader.expect("to")
    return "ask", name, low, read_bound(reader)


def read_bound(reader):
    """A bound of an ask."""
    if reader.ahead() == "any":
        reader.go_on()
        return None
    if reader.ahead() == "-":
        reader.go_on()
        return -reader.take_figures()
    return reader.take_figures()


def read_call(reader, aim):
    """A call whose number goes to an aim, up to its semicolon."""
    reader.expect("call")
    name = reader.take_name()
    reader.expect("(")
    given = []
    if reader.ahead() != ")":
        given.append(read_sum(reader))
        while reader.ahead() == ",":
            reader.go_on()
            given.append(read_sum(reader))
    reader.expect(")")
    return "call", aim, name, tuple(given)


def read_change(reader):
    """A statement that begins with a name, up to its semicolon."""
    name = reader.take_name()
    if reader.ahead() == "[":
        at = read_at(reader)
        reader.expect("=")
        return "put", name, at, read_sum(reader)
    reader.expect("=")
    if reader.ahead() == "call":
        return read_call(reader, name)
    return "set", name, read_sum(reader)


def read_at(reader):
    """The index of a cell, in its brackets."""
    reader.expect("[")
    at = read_sum(reader)
    reader.expect("]")
    return at


def read_sum(reader):
    """An expression."""
    value = read_product(reader)
    while reader.ahead() in ("+", "-"):
        sign = reader.go_on()
        value = (sign, value, read_product(reader))
    return value


def read_product(reader):
    """A term of an expression."""
    value = read_unary(reader)
    while reader.ahead() in ("*", "div", "mod"):
        sign = reader.go_on()
        value = (sign, value, read_unary(reader))
    return value


def read_unary(reader):
    """A factor of a term."""
    word = reader.ahead()
    if word == "-":
        reader.go_on()
        return "minus", read_unary(reader)
    if word == "(":
        reader.go_on()
        value = read_sum(reader)
        reader.expect(")")
        return value
    if word.isdigit():
        return "number", reader.take_figures()
    name = reader.take_name()
    if reader.ahead() == "[":
        return "cell", name, read_at(reader)
    return "name", name


def read_condition(reader):
    """A condition."""
    value = read_conjunction(reader)
    while reader.ahead() == "or":
        reader.go_on()
        value = ("or", value, read_conjunction(reader))
    return value


def read_conjunction(reader):
    """A part of a condition between two or."""
    value = read_prime(reader)
    while reader.ahead() == "and":
        reader.go_on()
        value = ("and", value, read_prime(reader))
    return value


def read_prime(reader):
    """A part of a condition between two and."""
    if reader.ahead() == "not":
        reader.go_on()
        return "not", read_prime(reader)
    if reader.ahead() == "[":
        reader.go_on()
        value = read_condition(reader)
        reader.expect("]")
        return value
    left = read_sum(reader)
    if reader.ahead() not in COMPARISONS:
        reader.refuse()
    sign = reader.go_on()
    return sign, left, read_sum(reader)
