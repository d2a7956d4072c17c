"""Equations: sums of numbers, each times a whole number, that are told."""

from soundlooks.arguments import refuse_wrong_differences, refuse_wrong_equations, refuse_wrong_many, refuse_wrong_row
from soundlooks.arguments import refuse_wrong_rows, refuse_wrong_slot, refuse_wrong_slots, refuse_wrong_values
from soundlooks.gaps import closing
from soundlooks.lines import form_at, gaps_of_lines, is_lines, lines_forgotten, lines_from, lines_guarded, lines_hold
from soundlooks.lines import lines_joined, lines_keep, lines_kept, lines_met, lines_of_gaps, lines_rank, lines_set
from soundlooks.lines import lines_within, point_beyond


def is_equations(many, value):
    """Whether a value is equations of so many slots."""
    refuse_wrong_many(many)
    return is_lines(many, value)


def equations_from(many, rows):
    """The equations with just the points that keep some rows."""
    refuse_wrong_many(many)
    refuse_wrong_rows(many, rows)
    return lines_from(many, rows)


def equations_hold(many, one, values):
    """Whether values keep all rows of equations."""
    refuse_wrong_equations(many, one)
    refuse_wrong_values(many, values)
    return lines_hold(one, values)


def equations_keep(many, one, row):
    """Whether all points of equations keep a row."""
    refuse_wrong_equations(many, one)
    refuse_wrong_row(many, row)
    return lines_keep(one, row)


def point_outside(many, one, other):
    """Any point of equations that is none of others; None if there is none."""
    refuse_wrong_two(many, one, other)
    return point_beyond(many, one, other)


def form_value(many, one, form):
    """The fraction that a form is at all points of equations; None if it is not one alone."""
    refuse_wrong_equations(many, one)
    refuse_wrong_row(many, form)
    return form_at(one, form)


def equations_within(many, one, other):
    """Whether each point of equations is one of others."""
    refuse_wrong_two(many, one, other)
    return lines_within(one, other)


def equations_joined(many, one, other):
    """The least equations with all points of both."""
    refuse_wrong_two(many, one, other)
    return lines_joined(one, other)


def equations_met(many, one, other):
    """The equations with just the points of both."""
    refuse_wrong_two(many, one, other)
    return lines_met(many, one, other)


def equations_guarded(many, one, form):
    """The equations with just the points at which a form is 0."""
    refuse_wrong_equations(many, one)
    refuse_wrong_row(many, form)
    return lines_guarded(many, one, form)


def equations_forgotten(many, one, slot):
    """Equations with a slot forgotten."""
    refuse_wrong_equations(many, one)
    refuse_wrong_slot(many, slot)
    return lines_forgotten(many, one, slot)


def equations_set(many, one, slot, form):
    """Equations with a slot set to a form."""
    refuse_wrong_equations(many, one)
    refuse_wrong_slot(many, slot)
    refuse_wrong_row(many, form)
    return lines_set(many, one, slot, form)


def equations_kept(many, one, slots):
    """Equations kept at a tuple of slots, None standing for fresh ones."""
    refuse_wrong_equations(many, one)
    refuse_wrong_slots(many, slots)
    return lines_kept(many, one, slots)


def equations_rank(many, one):
    """The rank of equations."""
    refuse_wrong_equations(many, one)
    return lines_rank(many, one)


def equations_of(many, one):
    """The equations of the fixed differences of differences."""
    refuse_wrong_differences(many, one)
    return lines_of_gaps(closing(one))


def differences_of(many, one):
    """The differences that equations fix."""
    refuse_wrong_equations(many, one)
    return gaps_of_lines(many, one)


def refuse_wrong_two(many, one, other):
    """Raises an error for what is no size, or for the first of both that is no equations of it."""
    refuse_wrong_equations(many, one)
    refuse_wrong_equations(many, other)
