"""Differences: how far any two of some numbers, and each of them and 0, are apart."""

from soundlooks.arguments import refuse_wrong_differences, refuse_wrong_indexes, refuse_wrong_many, refuse_wrong_marks
from soundlooks.arguments import refuse_wrong_number, refuse_wrong_slot, refuse_wrong_slots, refuse_wrong_values
from soundlooks.gaps import closed_forgotten, closed_kept, closed_set, closing, free_gaps, gaps_guarded, gaps_hold
from soundlooks.gaps import gaps_joined, gaps_met, gaps_rank, gaps_unlike, gaps_widened, gaps_within, is_gaps
from soundlooks.gaps import ring_in, span_between, values_in


def is_differences(many, value):
    """Whether a value is differences of so many slots."""
    refuse_wrong_many(many)
    return is_gaps(many, value)


def free_differences(many):
    """The differences that hold all values."""
    refuse_wrong_many(many)
    return free_gaps(many)


def differences_hold(many, one, values):
    """Whether differences hold some values."""
    refuse_wrong_differences(many, one)
    refuse_wrong_values(many, values)
    return gaps_hold(one, values)


def closed_differences(many, one):
    """The closing of differences."""
    refuse_wrong_differences(many, one)
    return closing(one)


def ring_of(many, one):
    """Any ring of differences; None if there is none."""
    refuse_wrong_differences(many, one)
    return ring_in(one)


def some_values(many, one):
    """Any values that differences hold; None if there are none."""
    refuse_wrong_differences(many, one)
    return values_in(closing(one))


def values_apart(many, one, first, second, number):
    """Any values that differences hold with this difference of two slots; None if there are none."""
    refuse_wrong_pair(many, one, first, second, number)
    return values_in(gaps_guarded(one, [(first, second, number), (second, first, -number)]))


def stretch_between(many, one, first, second):
    """The stretch of the differences of two slots in all values that differences hold."""
    refuse_wrong_differences(many, one)
    refuse_wrong_indexes(many, (first, second))
    return span_between(closing(one), first, second)


def differences_within(many, one, other):
    """Whether other differences hold all values that differences hold."""
    refuse_wrong_two(many, one, other)
    return gaps_within(one, other)


def differences_joined(many, one, other):
    """The least differences of all values that one of both holds."""
    refuse_wrong_two(many, one, other)
    return gaps_joined(one, other)


def differences_met(many, one, other):
    """The differences of the values that both hold."""
    refuse_wrong_two(many, one, other)
    return gaps_met(one, other)


def differences_guarded(many, one, first, second, number):
    """The differences of the values for which two slots differ by up to a number."""
    refuse_wrong_pair(many, one, first, second, number)
    return gaps_guarded(one, [(first, second, number)])


def differences_unlike(many, one, first, second, number):
    """The least differences of the values with another difference of two slots than a number."""
    refuse_wrong_pair(many, one, first, second, number)
    return gaps_unlike(one, first, second, number)


def differences_forgotten(many, one, slot):
    """Differences with a slot forgotten."""
    refuse_wrong_differences(many, one)
    refuse_wrong_slot(many, slot)
    return closed_forgotten(closing(one), slot)


def differences_set(many, one, slot, source, number):
    """Differences with a slot set to another one, or itself, and a number."""
    refuse_wrong_differences(many, one)
    refuse_wrong_slot(many, slot)
    refuse_wrong_indexes(many, (source,))
    refuse_wrong_number(number)
    return closed_set(closing(one), slot, source, number)


def differences_kept(many, one, slots):
    """Differences kept at a tuple of slots, None standing for fresh ones."""
    refuse_wrong_differences(many, one)
    refuse_wrong_slots(many, slots)
    return closed_kept(closing(one), slots)


def differences_widened(many, marks, one, other):
    """Differences, as they stand, widened by others."""
    refuse_wrong_many(many)
    refuse_wrong_marks(marks)
    refuse_wrong_two(many, one, other)
    return gaps_widened(marks, one, other)


def differences_rank(many, marks, one):
    """The rank of differences for marks."""
    refuse_wrong_many(many)
    refuse_wrong_marks(marks)
    refuse_wrong_differences(many, one)
    return gaps_rank(marks, many, one)


def refuse_wrong_two(many, one, other):
    """Raises an error for what is no size, or for the first of both that is no differences of it."""
    refuse_wrong_differences(many, one)
    refuse_wrong_differences(many, other)


def refuse_wrong_pair(many, one, first, second, number):
    """Raises an error for the first argument that is wrong where two slots and a number are told."""
    refuse_wrong_differences(many, one)
    refuse_wrong_indexes(many, (first, second))
    refuse_wrong_number(number)
