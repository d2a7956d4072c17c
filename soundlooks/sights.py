"""The pairs of names and kinds that are in sight of procedures, and at the ENDs of their graphs."""

from soundlooks.basics import is_row

GIVEN = ("given", ("num",))


def own_pairs(program, proc):
    """The pairs of the params and locals of a procedure."""
    return program[1][proc][1] + program[1][proc][2]


def pairs_in_sight(program, proc):
    """The pairs of all that is in sight of a procedure, in order."""
    return program[0] + own_pairs(program, proc)


def number_pairs(pairs):
    """Those of some pairs that are numbers."""
    return tuple([pair for pair in pairs if not is_row(pair)])


def row_pairs(pairs):
    """Those of some pairs that are rows."""
    return tuple([pair for pair in pairs if is_row(pair)])


def sight_in(program, proc):
    """The sight of a procedure: the pairs of its numbers, and of its rows."""
    pairs = pairs_in_sight(program, proc)
    return number_pairs(pairs), row_pairs(pairs)


def sight_at_end(program):
    """The end's sight of a program."""
    return number_pairs(program[0]) + (GIVEN,), row_pairs(program[0])


def sight_at(program, layout, proc, place):
    """The sight at a place of a procedure with this graph."""
    return sight_at_end(program) if place == layout.end else sight_in(program, proc)
