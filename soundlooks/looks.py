"""Looks: what is told of the numbers and rows in sight of a place."""

from soundlooks.arguments import refuse_wrong_marks, refuse_wrong_proc, refuse_wrong_program
from soundlooks.refusals import refuse_wrong_cells, refuse_wrong_look, refuse_wrong_numbers, refuse_wrong_sight
from soundlooks.sights import sight_at_end, sight_in
from soundlooks.views import exchange, free_view, is_view, view_holds, view_joined, view_met, view_rank, view_widened
from soundlooks.views import view_within


def sight_of(program, index):
    """The sight of a procedure."""
    refuse_wrong_program(program)
    refuse_wrong_proc(program, index)
    return sight_in(program, index)


def end_sight(program):
    """The end's sight of a program."""
    refuse_wrong_program(program)
    return sight_at_end(program)


def is_look(sight, value):
    """Whether a value is a look of a sight."""
    refuse_wrong_sight(sight)
    return is_view(sight, value)


def free_look(sight):
    """The look of a sight that holds all values."""
    refuse_wrong_sight(sight)
    return free_view(sight)


def look_holds(sight, look, numbers, cells):
    """Whether a look holds values."""
    refuse_wrong_looks(sight, [look])
    refuse_wrong_numbers(sight, numbers)
    refuse_wrong_cells(sight, cells)
    return view_holds(look, numbers, cells)


def look_within(sight, look, other):
    """Whether a look lies within another one."""
    refuse_wrong_looks(sight, [look, other])
    return view_within(look, other)


def look_joined(sight, look, other):
    """Two looks joined."""
    refuse_wrong_looks(sight, [look, other])
    return view_joined(look, other)


def look_met(sight, look, other):
    """Two looks met."""
    refuse_wrong_looks(sight, [look, other])
    return view_met(look, other)


def look_widened(sight, marks, look, other):
    """A look widened by another one."""
    refuse_wrong_sight(sight)
    refuse_wrong_marks(marks)
    refuse_wrong_looks(sight, [look, other])
    return view_widened(marks, look, other)


def look_rank(sight, marks, look):
    """The rank of a look for marks."""
    refuse_wrong_sight(sight)
    refuse_wrong_marks(marks)
    refuse_wrong_looks(sight, [look])
    return view_rank(marks, sight, look)


def exchanged(sight, look):
    """A look exchanged."""
    refuse_wrong_looks(sight, [look])
    return exchange(look)


def refuse_wrong_looks(sight, looks):
    """Raises InvalidSight for what is no sight, InvalidLook for the first one that is no look of it."""
    refuse_wrong_sight(sight)
    for look in looks:
        refuse_wrong_look(sight, look)
