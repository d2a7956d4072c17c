"""Whether states lie in tables."""

from soundlooks.basics import is_row
from soundlooks.gaps import closing
from soundlooks.sights import own_pairs
from soundlooks.steps import kept_at, slots_from
from soundlooks.views import view_holds, view_of


def lies_in_table(machine, table, state):
    """Whether a state lies in a table."""
    frames, _ = state
    for frame in frames[:-1]:
        if not lies_ahead(machine.program, table, frame):
            return False
    proc, place, _ = frames[-1]
    return lies_last(machine, table[proc][place], state)


def numbers_and_rows(pairs, told):
    """The numbers and the rows among the values of names."""
    numbers = [one for pair, one in zip(pairs, told) if not is_row(pair)]
    return tuple(numbers), tuple([one for pair, one in zip(pairs, told) if is_row(pair)])


def last_values(machine, state):
    """The values for the sight of the last frame's place: its numbers, and its rows."""
    frames, shared = state
    proc, place, own = frames[-1]
    numbers, cells = numbers_and_rows(machine.program[0], shared)
    if place == machine.layouts[proc].end:
        return numbers + own, cells
    own_numbers, own_cells = numbers_and_rows(own_pairs(machine.program, proc), own)
    return numbers + own_numbers, cells + own_cells


def lies_last(machine, view, state):
    """Whether the last frame's values and the globals lie in a look of its place."""
    numbers, cells = last_values(machine, state)
    return view_holds(view, numbers, cells)


def lies_ahead(program, table, frame):
    """Whether a waiting frame's own values lie in what the look of its place tells of them alone."""
    proc, place, own = frame
    view = table[proc][place]
    if view is None:
        return False
    numbers, cells = numbers_and_rows(own_pairs(program, proc), own)
    many = len(view[0])
    told = view_of(list(zip(view[0], view[1])), closing(view[2]), view[3])
    if told is None:
        return False
    slots = slots_from(many - len(numbers) + 1, len(numbers))
    rows = view[4][len(view[4]) - len(cells):]
    return view_holds(kept_at(told, slots, rows), numbers, cells)
