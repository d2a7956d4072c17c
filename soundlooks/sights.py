"""The pairs of names and kinds that are in sight of procedures, and at the ENDs of their graphs."""

from soundlooks.basics import is_row

GIVEN = ("given", ("num",))


def own_pairs(program, proc):
    """The pairs of the params and locals of a procedure."""
    return program[1][proc][1] + program[1][proc][2]


def pairs_in_sight(program, proc):
    """The pairs of all that is in sight of a procedure, in order."""
    return program[0] + own_pairs(program, proc)


def number_pairs(pairs):
    """Those of some pairs that are numbers."""
    return tuple([pair for pair in pairs if not is_row(pair)])


def row_pairs(pairs):
    """Those of some pairs that are rows."""
    return tuple([pair for pair in pairs if is_row(pair)])
