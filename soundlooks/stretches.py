"""Stretches: lots of whole numbers that are told by their ends."""

from soundlooks.arguments import refuse_wrong_guard, refuse_wrong_marks, refuse_wrong_number, refuse_wrong_stretch
from soundlooks.arguments import refuse_wrong_width
from soundlooks.spans import is_span, span_back, span_guarded, span_holds, span_joined, span_met, span_modulo
from soundlooks.spans import span_product, span_quotient, span_rank, span_sum, span_widened, span_within, span_wrapped


def is_stretch(value):
    """Whether a value is a stretch."""
    return is_span(value)


def stretch_holds(stretch, number):
    """Whether a stretch holds a number."""
    refuse_wrong_stretch(stretch)
    refuse_wrong_number(number)
    return span_holds(stretch, number)


def stretch_within(stretch, other):
    """Whether another stretch holds all that a stretch holds."""
    refuse_wrong_stretches(stretch, other)
    return span_within(stretch, other)


def stretch_joined(stretch, other):
    """The least stretch that holds what two hold."""
    refuse_wrong_stretches(stretch, other)
    return span_joined(stretch, other)


def stretch_met(stretch, other):
    """The stretch of what both hold."""
    refuse_wrong_stretches(stretch, other)
    return span_met(stretch, other)


def stretch_back(stretch):
    """The stretch of the opposite numbers."""
    refuse_wrong_stretch(stretch)
    return span_back(stretch)


def stretch_sum(stretch, other):
    """The stretch of the sums."""
    refuse_wrong_stretches(stretch, other)
    return span_sum(stretch, other)


def stretch_product(stretch, other):
    """The least stretch of the products."""
    refuse_wrong_stretches(stretch, other)
    return span_product(stretch, other)


def stretch_quotient(stretch, other):
    """The least stretch of the quotients, rounded down, by numbers other than 0."""
    refuse_wrong_stretches(stretch, other)
    return span_quotient(stretch, other)


def stretch_modulo(stretch, other):
    """The modulo stretch."""
    refuse_wrong_stretches(stretch, other)
    return span_modulo(stretch, other)


def stretch_wrapped(stretch, width):
    """A stretch wrapped at a width."""
    refuse_wrong_stretch(stretch)
    refuse_wrong_width(width)
    return span_wrapped(stretch, width)


def stretch_guarded(guard, stretch, other):
    """The pair of two stretches guarded."""
    refuse_wrong_guard(guard)
    refuse_wrong_stretches(stretch, other)
    return span_guarded(guard, stretch, other)


def stretch_widened(marks, stretch, other):
    """A stretch widened by another one."""
    refuse_wrong_marks(marks)
    refuse_wrong_stretches(stretch, other)
    return span_widened(marks, stretch, other)


def stretch_rank(marks, stretch):
    """The rank of a stretch for marks."""
    refuse_wrong_marks(marks)
    refuse_wrong_stretch(stretch)
    return span_rank(marks, stretch)


def refuse_wrong_stretches(stretch, other):
    """Raises InvalidStretch for the first of both that is no stretch."""
    refuse_wrong_stretch(stretch)
    refuse_wrong_stretch(other)
