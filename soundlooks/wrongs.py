"""Where a value is wrong: the first path at which it is not as told, None where there is none."""

from soundlooks.basics import CONDITIONS, EXPRESSIONS, STATEMENTS
from soundlooks.basics import first_word, has_few_figures, is_high, is_kind, is_low, is_name, is_row

MOST_PROCS = 6
MOST_STATEMENTS = 60
MOST_DEEP = 8
MOST_NUMBERS = 8
MOST_ROWS = 4


def wrong_program(value):
    """The path at which a value is wrong as a program."""
    if not isinstance(value, tuple) or len(value) != 2:
        return ()
    shared = {}
    wrong = wrong_pairs(shared, value[0], (0,), False)
    if wrong is None:
        wrong = wrong_heads(shared, value[1])
    if wrong is None:
        wrong = wrong_bodies(value)
    return wrong


def wrong_pairs(sight, value, path, are_params):
    """Where a value is wrong as pairs behind those in sight; puts them into sight on the way."""
    if not isinstance(value, tuple):
        return path
    for at, pair in enumerate(value):
        wrong = wrong_pair(sight, pair, path + (at,), are_params)
        if wrong is not None:
            return wrong
        sight[pair[0]] = pair[1]
    return None


def wrong_pair(sight, value, path, is_param):
    """Where a value is wrong as one more pair beside those in sight."""
    if not isinstance(value, tuple) or len(value) != 2:
        return path
    if not is_name(value[0]) or value[0] in sight:
        return path + (0,)
    if not is_kind(value[1]) or (is_param and is_row(value)):
        return path + (1,)
    many_rows = len([pair for pair in sight.items() if is_row(pair)])
    if is_row(value):
        return path if many_rows >= MOST_ROWS else None
    return path if len(sight) - many_rows >= MOST_NUMBERS else None


def wrong_heads(shared, procs):
    """Where procedures are wrong ahead of their bodies."""
    if not isinstance(procs, tuple) or not 1 <= len(procs) <= MOST_PROCS:
        return (1,)
    names = {}
    for index, proc in enumerate(procs):
        wrong = wrong_head(shared, names, proc, index)
        if wrong is not None:
            return wrong
        names[proc[0]] = True
    return None


def wrong_head(shared, names, proc, index):
    """Where one procedure is wrong ahead of its body."""
    path = (1, index)
    if not isinstance(proc, tuple) or len(proc) != 4:
        return path
    if not is_name(proc[0]) or proc[0] in names:
        return path + (0,)
    if index == 0 and isinstance(proc[1], tuple) and len(proc[1]) > 0:
        return path + (1,)
    sight = dict(shared)
    wrong = wrong_pairs(sight, proc[1], path + (1,), True)
    if wrong is None:
        wrong = wrong_pairs(sight, proc[2], path + (2,), False)
    return wrong


def wrong_bodies(program):
    """Where the bodies of procedures are wrong whose heads are as told."""
    bodies = Bodies(program)
    for index, proc in enumerate(program[1]):
        bodies.sight = kinds_in_sight(program, index)
        wrong = bodies.wrong_block(proc[3], (1, index, 3), 1)
        if wrong is not None:
            return wrong
    return None


def kinds_in_sight(program, index):
    """The names in sight of a procedure, each with its kind."""
    proc = program[1][index]
    return dict(program[0] + proc[1] + proc[2])


def names_number(sight, value):
    """Whether a value is the name of a number in sight."""
    return isinstance(value, str) and value in sight and sight[value][0] != "row"


def names_row(sight, value):
    """Whether a value is the name of a row in sight."""
    return isinstance(value, str) and value in sight and sight[value][0] == "row"


def wrong_expression(sight, value, path, depth):
    """Where a value, so deep, is wrong as an expression over what is in sight."""
    word = first_word(value)
    if depth > MOST_DEEP or word not in EXPRESSIONS:
        return path
    return wrong_parts(sight, EXPRESSIONS[word], value, path, depth)


def wrong_condition(sight, value, path, depth):
    """Where a value, so deep, is wrong as a condition over what is in sight."""
    word = first_word(value)
    if depth > MOST_DEEP or word not in CONDITIONS:
        return path
    return wrong_parts(sight, CONDITIONS[word], value, path, depth)


def wrong_parts(sight, roles, value, path, depth):
    """Where an expression or condition, so deep, is wrong behind its first word."""
    if len(value) != len(roles) + 1:
        return path
    for at, role in enumerate(roles, start=1):
        wrong = wrong_part(sight, role, value[at], path + (at,), depth + 1)
        if wrong is not None:
            return wrong
    return None


def wrong_part(sight, role, value, path, depth):
    """Where an expression or condition, so deep, or an element in the place of one is wrong."""
    if role == "expression":
        return wrong_expression(sight, value, path, depth)
    if role == "condition":
        return wrong_condition(sight, value, path, depth)
    if role == "figures":
        right = has_few_figures(value) and value >= 0
    elif role == "row":
        right = names_row(sight, value)
    else:
        right = names_number(sight, value)
    return None if right else path


class Bodies:
    """Goes through the bodies of a program and counts their statements."""

    def __init__(self, program):
        self.statements = 0
        self.sight = {}
        self.many_params = {proc[0]: len(proc[1]) for proc in program[1]}

    def wrong_block(self, value, path, depth):
        """Where a value is wrong as a tuple of statements so deep."""
        if not isinstance(value, tuple):
            return path
        for at, statement in enumerate(value):
            wrong = self.wrong_statement(statement, path + (at,), depth)
            if wrong is not None:
                return wrong
        return None

    def wrong_statement(self, value, path, depth):
        """Where a value is wrong as the next statement."""
        self.statements += 1
        if self.statements > MOST_STATEMENTS or depth > MOST_DEEP:
            return path
        word = first_word(value)
        if word not in STATEMENTS or len(value) != len(STATEMENTS[word]) + 1:
            return path
        for at, role in enumerate(STATEMENTS[word], start=1):
            wrong = self.wrong_role(role, value, at, path + (at,), depth)
            if wrong is not None:
                return wrong
        return None

    def wrong_role(self, role, statement, at, path, depth):
        """Where the element or part of a statement at an index is wrong for its role there."""
        value = statement[at]
        if role == "block":
            return self.wrong_block(value, path, depth + 1)
        if role == "arguments":
            return self.wrong_arguments(statement[2], value, path)
        if role == "proc":
            right = isinstance(value, str) and value in self.many_params
        elif role == "aim":
            right = value is None or names_number(self.sight, value)
        elif role == "low":
            right = is_low(value)
        elif role == "high":
            right = is_high(statement[2], value)
        else:
            return wrong_part(self.sight, role, value, path, 1)
        return None if right else path

    def wrong_arguments(self, name, value, path):
        """Where a value is wrong as the arguments for the procedure of a name."""
        if not isinstance(value, tuple) or len(value) != self.many_params[name]:
            return path
        for at, argument in enumerate(value):
            wrong = wrong_expression(self.sight, argument, path + (at,), 1)
            if wrong is not None:
                return wrong
        return None
