"""Shows programs as text, with brackets only where the tree would be another one without."""

from soundlooks.basics import COMPARISONS

# A part of a lesser rank than asked for stands in brackets.
RANKS = {"+": 1, "-": 1, "*": 2, "div": 2, "mod": 2, "minus": 3, "or": 1, "and": 2}
ANY_RANK = 1
RANK_OF_PRIME = 3


def expression_text(value, rank):
    """The text of an expression where this rank is asked for."""
    word = value[0]
    if word == "number":
        return str(value[1])
    if word == "name":
        return value[1]
    if word == "cell":
        return f"{value[1]}[{expression_text(value[2], ANY_RANK)}]"
    own = RANKS[word]
    if word == "minus":
        told = f"-{expression_text(value[1], own)}"
    else:
        told = f"{expression_text(value[1], own)} {word} {expression_text(value[2], own + 1)}"
    return f"({told})" if own < rank else told


def condition_text(value, rank):
    """The text of a condition where this rank is asked for."""
    word = value[0]
    if word in COMPARISONS:
        return f"{expression_text(value[1], ANY_RANK)} {word} {expression_text(value[2], ANY_RANK)}"
    if word == "not":
        return f"not {condition_text(value[1], RANK_OF_PRIME)}"
    own = RANKS[word]
    told = f"{condition_text(value[1], own)} {word} {condition_text(value[2], own + 1)}"
    return f"[{told}]" if own < rank else told


def decl_text(pair):
    """The text of a kind and a name."""
    name, kind = pair
    return " ".join([str(part) for part in kind + (name,)])


def bound_text(bound):
    """The text of a bound of an ask."""
    return "any" if bound is None else str(bound)


def call_text(statement):
    """The text of a call, without its semicolon."""
    _, aim, name, given = statement
    told = ", ".join([expression_text(value, ANY_RANK) for value in given])
    ahead = "" if aim is None else f"{aim} = "
    return f"{ahead}call {name}({told})"


def line_text(statement):
    """The text of a statement that stands on one line, without its semicolon."""
    word = statement[0]
    if word == "set":
        return f"{statement[1]} = {expression_text(statement[2], ANY_RANK)}"
    if word == "put":
        at = expression_text(statement[2], ANY_RANK)
        return f"{statement[1]}[{at}] = {expression_text(statement[3], ANY_RANK)}"
    if word == "ask":
        return f"ask {statement[1]} from {bound_text(statement[2])} to {bound_text(statement[3])}"
    if word == "call":
        return call_text(statement)
    if word == "check":
        return f"check ({condition_text(statement[1], ANY_RANK)})"
    return f"give {expression_text(statement[1], ANY_RANK)}"


class Page:
    """The lines shown so far; for each statement its path and the line on which it begins; where procedures end."""

    def __init__(self):
        self.lines = []
        self.begun = []
        self.ended = []

    def add_line(self, depth, told):
        """Shows a line with so many blocks around it."""
        self.lines.append("  " * depth + told)

    def add_program(self, program):
        """Shows a program."""
        for pair in program[0]:
            self.add_line(0, f"{decl_text(pair)};")
        for index, proc in enumerate(program[1]):
            self.add_proc(proc, (1, index))

    def add_proc(self, proc, path):
        """Shows a procedure."""
        name, params, local_pairs, body = proc
        told = ", ".join([decl_text(pair) for pair in params])
        self.add_line(0, f"proc {name}({told}) {{")
        for pair in local_pairs:
            self.add_line(1, f"{decl_text(pair)};")
        self.add_block(body, path + (3,), 1)
        self.add_line(0, "}")
        self.ended.append(len(self.lines))

    def add_block(self, block, path, depth):
        """Shows the statements of a block."""
        for at, statement in enumerate(block):
            self.add_statement(statement, path + (at,), depth)

    def add_statement(self, statement, path, depth):
        """Shows a statement."""
        self.begun.append((path, len(self.lines) + 1))
        if statement[0] == "if":
            self.add_if(statement, path, depth)
        elif statement[0] == "while":
            self.add_line(depth, f"while ({condition_text(statement[1], ANY_RANK)}) {{")
            self.add_block(statement[2], path + (2,), depth + 1)
            self.add_line(depth, "}")
        else:
            self.add_line(depth, f"{line_text(statement)};")

    def add_if(self, statement, path, depth):
        """Shows an if, with an else where it has one."""
        _, condition, chosen, other = statement
        self.add_line(depth, f"if ({condition_text(condition, ANY_RANK)}) {{")
        self.add_block(chosen, path + (2,), depth + 1)
        if other != ():
            self.add_line(depth, "} else {")
            self.add_block(other, path + (3,), depth + 1)
        self.add_line(depth, "}")


def shown_page(program):
    """The page on which a program is shown."""
    page = Page()
    page.add_program(program)
    return page
