"""The graphs of procedures: their places, edges and failing places, and what is in sight of a place."""

from soundlooks.arguments import refuse_wrong_place, refuse_wrong_proc, refuse_wrong_program
from soundlooks.layout import Layout
from soundlooks.sights import GIVEN, number_pairs, pairs_in_sight, row_pairs


def graph_of(program, proc):
    """The triple (COUNT, EDGES, FAILING) of a procedure's graph."""
    layout = layout_at(program, proc)
    edges = []
    for place, leaving in enumerate(layout.leaving):
        edges.extend([(place, step, behind) for step, behind in leaving])
    return layout.end + 1, tuple(edges), tuple(layout.failing)


def place_path(program, proc, place):
    """The path of the statement whose place it is; None for the place that gives 0 and for END."""
    layout = layout_at(program, proc)
    refuse_wrong_place(layout, place)
    return layout.paths[place]


def numbers_at(program, proc, place):
    """The pairs of the numbers in sight at a place; at END the globals' and the given one."""
    layout = layout_at(program, proc)
    refuse_wrong_place(layout, place)
    if place == layout.end:
        return number_pairs(program[0]) + (GIVEN,)
    return number_pairs(pairs_in_sight(program, proc))


def rows_at(program, proc, place):
    """The pairs of the rows in sight at a place; at END the globals'."""
    layout = layout_at(program, proc)
    refuse_wrong_place(layout, place)
    if place == layout.end:
        return row_pairs(program[0])
    return row_pairs(pairs_in_sight(program, proc))


def layout_at(program, proc):
    """The graph of a procedure, neither of both being taken for granted."""
    refuse_wrong_program(program)
    refuse_wrong_proc(program, proc)
    return Layout(program, proc)
