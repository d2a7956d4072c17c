"""Programs as trees: whether a value is one, its parts, its names and its numbers."""

from soundlooks.arguments import refuse_wrong_proc, refuse_wrong_program
from soundlooks.basics import STATEMENTS, first_word, is_index, is_whole
from soundlooks.errors import InvalidProgram
from soundlooks.sights import number_pairs, pairs_in_sight, row_pairs
from soundlooks.wrongs import wrong_program


def is_program(value):
    """Whether a value is a program."""
    return wrong_program(value) is None


def wrong_in(value):
    """The path at which a value is wrong; None for a program."""
    return wrong_program(value)


def part_at(program, path):
    """The part of a program at a path."""
    refuse_wrong_program(program)
    if not isinstance(path, tuple):
        raise InvalidProgram(path)
    part = program
    for index in path:
        if not isinstance(part, tuple) or not is_index(index, len(part)):
            raise InvalidProgram(path)
        part = part[index]
    return part


def statement_count(program):
    """How many statements a program has, those within others, too."""
    refuse_wrong_program(program)
    return sum([count_in(proc[3]) for proc in program[1]])


def count_in(block):
    """How many statements stand in a block, at any depth."""
    many = len(block)
    for statement in block:
        many += sum([count_in(inner) for inner in blocks_of(statement)])
    return many


def blocks_of(statement):
    """The blocks that stand in a statement."""
    roles = STATEMENTS[statement[0]]
    return [part for part, role in zip(statement[1:], roles) if role == "block"]


def numbers_of(program, proc):
    """The pairs of the numbers in sight of a procedure."""
    refuse_wrong_program(program)
    refuse_wrong_proc(program, proc)
    return number_pairs(pairs_in_sight(program, proc))


def rows_of(program, proc):
    """The pairs of the rows in sight of a procedure."""
    refuse_wrong_program(program)
    refuse_wrong_proc(program, proc)
    return row_pairs(pairs_in_sight(program, proc))


def marks_of(program):
    """The marks of a program: its numbers with their neighbours, the ends of its kinds, all opposites."""
    refuse_wrong_program(program)
    marks = marks_in(program)
    return tuple(sorted({sign * mark for mark in [0] + marks for sign in (1, -1)}))


def marks_in(part):
    """The marks that a part of a program brings along, without opposites."""
    marks = marks_told(part)
    for inner in part:
        if isinstance(inner, tuple):
            marks.extend(marks_in(inner))
    return marks


def marks_told(part):
    """The marks that a part brings along by its own elements."""
    word = first_word(part)
    if word == "ask":
        return neighbours([bound for bound in part[2:] if bound is not None])
    # A pair and a procedure, too, may begin with a name "number", but no whole number stands behind it.
    if word == "number" and is_whole(part[1]):
        return neighbours([part[1]])
    if word == "word":
        return [(1 << part[1]) - 1]
    if word == "row":
        return [part[1] - 1]
    return []


def neighbours(numbers):
    """Each number with the one below and the one above it."""
    return [number + by for number in numbers for by in (-1, 0, 1)]
