"""What can be done with stretches that are taken for granted."""

from soundlooks.basics import is_whole
from soundlooks.marking import mark_from, mark_up_to, marks_above, marks_below

FREE = (None, None)
ABOVE_NOUGHT = (1, None)
BELOW_NOUGHT = (None, -1)


def is_end(value):
    """Whether a value is an end of a stretch, None for no bound."""
    return value is None or is_whole(value)


def is_span(value):
    """Whether a value is a stretch."""
    if not isinstance(value, tuple) or len(value) not in (0, 2):
        return False
    if not all([is_end(end) for end in value]):
        return False
    return len(value) == 0 or value[0] is None or value[1] is None or value[0] <= value[1]


def span_holds(span, number):
    """Whether a stretch holds a number."""
    if span == ():
        return False
    low, high = span
    return (low is None or low <= number) and (high is None or number <= high)


def is_lesser_low(one, other):
    """Whether a LOW is lesser than another one, None being lesser than each number."""
    return other is not None and (one is None or one < other)


def is_greater_high(one, other):
    """Whether a HIGH is greater than another one, None being greater than each number."""
    return other is not None and (one is None or one > other)


def span_within(span, other):
    """Whether another stretch holds all that a stretch holds."""
    if span == () or other == ():
        return span == ()
    return not is_lesser_low(span[0], other[0]) and not is_greater_high(span[1], other[1])


def span_joined(span, other):
    """The least stretch that holds what two hold."""
    if span == ():
        return other
    if other == ():
        return span
    low = span[0] if is_lesser_low(span[0], other[0]) else other[0]
    high = span[1] if is_greater_high(span[1], other[1]) else other[1]
    return low, high


def span_from(low, high):
    """The stretch between two ends; () if they have crossed."""
    if low is not None and high is not None and low > high:
        return ()
    return low, high


def span_met(span, other):
    """The stretch of what both hold."""
    if span == () or other == ():
        return ()
    low = other[0] if is_lesser_low(span[0], other[0]) else span[0]
    high = other[1] if is_greater_high(span[1], other[1]) else span[1]
    return span_from(low, high)


def opposite(end):
    """The opposite of an end."""
    return None if end is None else -end


def span_back(span):
    """The stretch of the opposite numbers."""
    return () if span == () else (opposite(span[1]), opposite(span[0]))


def end_sum(end, by):
    """The sum of two ends of the same side."""
    return None if end is None or by is None else end + by


def span_sum(span, other):
    """The stretch of the sums."""
    if span == () or other == ():
        return ()
    return end_sum(span[0], other[0]), end_sum(span[1], other[1])


def ends_of(span):
    """Both ends as pairs that can be compared: a number behind 0, no bound as (-1, 0) below and (1, 0) above."""
    low, high = span
    return [(-1, 0) if low is None else (0, low), (1, 0) if high is None else (0, high)]


def sign_of(end):
    """1, 0 or -1 for an end as a pair."""
    if end == (0, 0):
        return 0
    return 1 if end > (0, 0) else -1


def end_product(end, other):
    """The product of two ends as pairs, 0 times no bound being 0."""
    sign = sign_of(end) * sign_of(other)
    if sign == 0 or (end[0] == 0 and other[0] == 0):
        return 0, end[1] * other[1]
    return sign, 0


def span_product(span, other):
    """The least stretch of the products."""
    if span == () or other == ():
        return ()
    products = [end_product(one, two) for one in ends_of(span) for two in ends_of(other)]
    low, high = min(products), max(products)
    return None if low[0] != 0 else low[1], None if high[0] != 0 else high[1]


def span_times(number, span):
    """The least stretch of a number, other than 0, times what a stretch, other than (), holds."""
    low, high = span if number > 0 else (span[1], span[0])
    return None if low is None else low * number, None if high is None else high * number


def by_both_signs(operation, span, other):
    """What an operation by numbers above 0 makes of those of a divisor; a pair with that for numbers below 0."""
    above = span_met(other, ABOVE_NOUGHT)
    below = span_back(span_met(other, BELOW_NOUGHT))
    for_above = () if span == () or above == () else operation(span, above)
    for_below = () if span == () or below == () else operation(span_back(span), below)
    return for_above, for_below


def span_quotient(span, other):
    """The least stretch of the quotients, rounded down, by numbers other than 0."""
    above, below = by_both_signs(quotient_by_above, span, other)
    return span_joined(above, below)


def quotient_by_above(span, other):
    """The least stretch of the quotients by a stretch from 1 on; neither is ()."""
    low, high = span
    least, greatest = other
    if low is not None:
        low = low // least if low < 0 else end_quotient(low, greatest, 0)
    if high is not None:
        high = high // least if high >= 0 else end_quotient(high, greatest, -1)
    return low, high


def end_quotient(number, end, without):
    """The quotient of a number by an end, or what stands for it without a bound."""
    return without if end is None else number // end


def span_modulo(span, other):
    """The modulo stretch."""
    above, below = by_both_signs(modulo_by_above, span, other)
    return span_joined(above, span_back(below))


def modulo_by_above(span, other):
    """The modulo stretch by a stretch from 1 on; neither is ()."""
    low, high = span
    least, greatest = other
    if least == greatest:
        if low is None or high is None or low // least != high // least:
            return 0, least - 1
        return low % least, high % least
    from_nought = low is not None and low >= 0
    if from_nought and high is not None and high < least:
        return span
    most = None if greatest is None else greatest - 1
    return 0, high if from_nought and is_greater_high(most, high) else most


def span_wrapped(span, width):
    """A stretch wrapped at a width."""
    size = 1 << width
    return span_modulo(span, (size, size))


def span_guarded(guard, span, other):
    """The pair of two stretches guarded."""
    if span == () or other == ():
        return (), ()
    if guard == "==":
        met = span_met(span, other)
        return met, met
    if guard == "!=":
        return without_one(span, other), without_one(other, span)
    apart = 1 if guard == "<" else 0
    return (
        span_met(span, (None, end_sum(other[1], -apart))),
        span_met(other, (end_sum(span[0], apart), None)),
    )


def without_one(span, other):
    """The least stretch without the number of another one that holds just one."""
    low, high = span
    if other[0] is None or other[0] != other[1]:
        return span
    number = other[0]
    return span_from(low + 1 if low == number else low, high - 1 if high == number else high)


def span_widened(marks, span, other):
    """A stretch widened by another one."""
    if span_within(other, span):
        return span
    if span == ():
        return other
    low, high = span
    if is_lesser_low(other[0], low):
        low = mark_up_to(marks, other[0])
    if is_greater_high(other[1], high):
        high = mark_from(marks, other[1])
    return low, high


def span_rank(marks, span):
    """The rank of a stretch for marks."""
    if span == ():
        return 2 * len(marks) + 3
    low, high = span
    below = 0 if low is None else 1 + marks_below(marks, low)
    return below + (0 if high is None else 1 + marks_above(marks, high))


def span_solved(number, span):
    """The least stretch of the x with a number, other than 0, times x in a stretch."""
    if span == ():
        return ()
    if number < 0:
        return span_solved(-number, span_back(span))
    low, high = span
    return span_from(None if low is None else -(-low // number), None if high is None else high // number)
