"""What can be done with rests that are taken for granted."""

from math import gcd, lcm

from soundlooks.basics import is_whole
from soundlooks.spans import span_holds

GRAIN = 20160
PRIMES_OF_GRAIN = (2, 3, 5, 7)
ANY_REST = (0, 1)


def is_residue(value):
    """Whether a value is a rest."""
    if not isinstance(value, tuple) or len(value) not in (0, 2):
        return False
    if not all([is_whole(number) for number in value]):
        return False
    if len(value) == 0 or value[1] == 0:
        return True
    number, divisor = value
    return divisor > 0 and GRAIN % divisor == 0 and 0 <= number < divisor


def residue_of(number, divisor):
    """The rest of all numbers that are a number and multiples of a divisor together, just the number for 0."""
    return (number, 0) if divisor == 0 else (number % divisor, divisor)


def residue_holds(residue, number):
    """Whether a rest holds a number."""
    if residue == ():
        return False
    return residue_of(number, residue[1]) == residue


def residue_within(residue, other):
    """Whether another rest holds all that a rest holds."""
    if residue == () or other == ():
        return residue == ()
    if other[1] == 0:
        return residue == other
    return residue[1] % other[1] == 0 and residue_holds(other, residue[0])


def residue_joined(residue, other):
    """The least rest that holds what two hold."""
    if residue == ():
        return other
    if other == () or residue == other:
        return residue
    return residue_of(residue[0], gcd(residue[1], other[1], residue[0] - other[0], GRAIN))


def residue_met(residue, other):
    """The rest of what both hold."""
    if residue == () or other == ():
        return ()
    if residue[1] == 0 or other[1] == 0:
        alone, beside = (residue, other) if residue[1] == 0 else (other, residue)
        return alone if residue_holds(beside, alone[0]) else ()
    common = gcd(residue[1], other[1])
    apart = other[0] - residue[0]
    if apart % common != 0:
        return ()
    times = apart // common * inverse(residue[1] // common, other[1] // common)
    return residue_of(residue[0] + residue[1] * times, lcm(residue[1], other[1]))


def inverse(number, divisor):
    """A number that, times this one, leaves 1 by a divisor; both have no common divisor."""
    begun, factor = number, 1
    left, factor_left = divisor, 0
    while left != 0:
        times = begun // left
        begun, left = left, begun - times * left
        factor, factor_left = factor_left, factor - times * factor_left
    return factor


def residue_back(residue):
    """The rest of the opposite numbers."""
    return () if residue == () else residue_of(-residue[0], residue[1])


def residue_sum(residue, other):
    """The rest of the sums."""
    if residue == () or other == ():
        return ()
    return residue_of(residue[0] + other[0], gcd(residue[1], other[1]))


def residue_product(residue, other):
    """The least rest of the products."""
    if residue == () or other == ():
        return ()
    apart = gcd(residue[1] * other[1], residue[1] * other[0], other[1] * residue[0])
    return residue_of(residue[0] * other[0], 0 if apart == 0 else gcd(apart, GRAIN))


def residue_quotient(residue, other):
    """A rest of the quotients, rounded down, by numbers other than 0."""
    if residue == () or other == () or other == (0, 0):
        return ()
    if other[1] == 0 and residue[1] % other[0] == 0:
        return residue_of(residue[0] // other[0], abs(residue[1] // other[0]))
    return residue if residue == (0, 0) else ANY_REST


def residue_modulo(residue, other):
    """A rest of what is left by numbers other than 0."""
    if residue == () or other == () or other == (0, 0):
        return ()
    if other[1] == 0 and residue[1] % other[0] == 0:
        return residue_of(residue[0] % other[0], 0)
    return residue_of(residue[0], gcd(residue[1], other[0], other[1]))


def residue_wrapped(residue, width):
    """A rest wrapped at a width."""
    return residue_modulo(residue, (1 << width, 0))


def residue_guarded(guard, residue, other):
    """The pair of two rests guarded."""
    if residue == () or other == ():
        return (), ()
    if guard == "==":
        met = residue_met(residue, other)
        return met, met
    if guard == "!=" and residue[1] == 0 and residue == other:
        return (), ()
    return residue, other


def residue_rank(residue):
    """The rank of a rest."""
    if residue == ():
        return 12
    if residue[1] == 0:
        return 11
    many = 0
    divisor = residue[1]
    for prime in PRIMES_OF_GRAIN:
        while divisor % prime == 0:
            divisor = divisor // prime
            many += 1
    return many


def settle(span, residue):
    """The pair of the least stretch and the least rest of what a stretch and a rest both hold."""
    if span == () or residue == ():
        return (), ()
    number, divisor = residue
    if divisor == 0:
        return ((number, number), residue) if span_holds(span, number) else ((), ())
    low, high = span
    if low is not None:
        low += (number - low) % divisor
    if high is not None:
        high -= (high - number) % divisor
    if low is None or high is None or low < high:
        return (low, high), residue
    return ((low, low), (low, 0)) if low == high else ((), ())
