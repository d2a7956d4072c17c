"""Rests: lots of whole numbers that leave the same by a divisor of the grain, or that are just one number."""

from soundlooks.arguments import refuse_wrong_guard, refuse_wrong_number, refuse_wrong_rest, refuse_wrong_stretch
from soundlooks.arguments import refuse_wrong_width
from soundlooks.residues import is_residue, residue_back, residue_guarded, residue_holds, residue_joined, residue_met
from soundlooks.residues import residue_modulo, residue_product, residue_quotient, residue_rank, residue_sum
from soundlooks.residues import residue_within, residue_wrapped, settle


def is_rest(value):
    """Whether a value is a rest."""
    return is_residue(value)


def rest_holds(rest, number):
    """Whether a rest holds a number."""
    refuse_wrong_rest(rest)
    refuse_wrong_number(number)
    return residue_holds(rest, number)


def rest_within(rest, other):
    """Whether another rest holds all that a rest holds."""
    refuse_wrong_rests(rest, other)
    return residue_within(rest, other)


def rest_joined(rest, other):
    """The least rest that holds what two hold."""
    refuse_wrong_rests(rest, other)
    return residue_joined(rest, other)


def rest_met(rest, other):
    """The rest of what both hold."""
    refuse_wrong_rests(rest, other)
    return residue_met(rest, other)


def rest_back(rest):
    """The rest of the opposite numbers."""
    refuse_wrong_rest(rest)
    return residue_back(rest)


def rest_sum(rest, other):
    """The rest of the sums."""
    refuse_wrong_rests(rest, other)
    return residue_sum(rest, other)


def rest_product(rest, other):
    """The least rest of the products."""
    refuse_wrong_rests(rest, other)
    return residue_product(rest, other)


def rest_quotient(rest, other):
    """A rest of the quotients, rounded down, by numbers other than 0."""
    refuse_wrong_rests(rest, other)
    return residue_quotient(rest, other)


def rest_modulo(rest, other):
    """A rest of what is left by numbers other than 0."""
    refuse_wrong_rests(rest, other)
    return residue_modulo(rest, other)


def rest_wrapped(rest, width):
    """A rest wrapped at a width."""
    refuse_wrong_rest(rest)
    refuse_wrong_width(width)
    return residue_wrapped(rest, width)


def rest_guarded(guard, rest, other):
    """The pair of two rests guarded."""
    refuse_wrong_guard(guard)
    refuse_wrong_rests(rest, other)
    return residue_guarded(guard, rest, other)


def rest_rank(rest):
    """The rank of a rest."""
    refuse_wrong_rest(rest)
    return residue_rank(rest)


def settled(stretch, rest):
    """The pair of the least stretch and the least rest of what a stretch and a rest both hold."""
    refuse_wrong_stretch(stretch)
    refuse_wrong_rest(rest)
    return settle(stretch, rest)


def refuse_wrong_rests(rest, other):
    """Raises InvalidRest for the first of both that is no rest."""
    refuse_wrong_rest(rest)
    refuse_wrong_rest(other)
