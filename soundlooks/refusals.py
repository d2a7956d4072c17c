"""Refuses arguments that are not as told: those that have to do with looks, and with searches for runs."""

from soundlooks.arguments import refuse_wrong_values
from soundlooks.basics import COMPARISONS, first_word, is_high, is_kind, is_low, is_name, is_row, is_whole
from soundlooks.errors import InvalidExpression, InvalidFault, InvalidLook, InvalidNumber, InvalidSight, InvalidStep
from soundlooks.errors import InvalidValues
from soundlooks.searching import is_bound
from soundlooks.states import are_numbers
from soundlooks.telling import is_fault_word
from soundlooks.views import is_view
from soundlooks.wrongs import names_number, names_row, wrong_expression

MOST_SIGHT_NAMES = 20
MOST_SIGHT_ROWS = 4


def is_sight(value):
    """Whether a value is a sight."""
    if not isinstance(value, tuple) or len(value) != 2:
        return False
    for part, most in zip(value, (MOST_SIGHT_NAMES, MOST_SIGHT_ROWS)):
        if not isinstance(part, tuple) or len(part) > most:
            return False
    names, rows = value
    if not all([is_pair_of_sight(pair, False) for pair in names]):
        return False
    if not all([is_pair_of_sight(pair, True) for pair in rows]):
        return False
    return len({pair[0]: True for pair in names + rows}) == len(names) + len(rows)


def is_pair_of_sight(value, for_row):
    """Whether a value is a pair of a sight, for a row or for a number."""
    if not isinstance(value, tuple) or len(value) != 2 or not is_kind(value[1]) or is_row(value) != for_row:
        return False
    return is_name(value[0]) or (not for_row and isinstance(value[0], str) and value[0] == "given")


def refuse_wrong_sight(sight):
    """Raises InvalidSight for what is no sight."""
    if not is_sight(sight):
        raise InvalidSight(sight)


def refuse_wrong_look(sight, look):
    """Raises InvalidLook for what is no look of a sight."""
    if not is_view(sight, look):
        raise InvalidLook(look)


def refuse_wrong_numbers(sight, numbers):
    """Raises InvalidValues for what is no tuple of the numbers of a sight."""
    refuse_wrong_values(len(sight[0]), numbers)


def refuse_wrong_cells(sight, cells):
    """Raises InvalidValues for what is no tuple of the cells of the rows of a sight."""
    if not isinstance(cells, tuple) or len(cells) != len(sight[1]):
        raise InvalidValues(None)
    for index, pair in enumerate(sight[1]):
        if not are_numbers(cells[index], pair[1][1]):
            raise InvalidValues(index)


def kinds_of(sight):
    """The dict of the names of a sight with their kinds."""
    return dict(sight[0] + sight[1])


def is_expression(kinds, value):
    """Whether a value is an expression over names with these kinds."""
    return wrong_expression(kinds, value, (), 1) is None


def refuse_wrong_expression(sight, expression):
    """Raises InvalidExpression for what is no expression over a sight."""
    if not is_expression(kinds_of(sight), expression):
        raise InvalidExpression(expression)


def refuse_wrong_arguments(sight, many, arguments):
    """Raises InvalidExpression for what is no tuple of so many expressions over a sight."""
    kinds = kinds_of(sight)
    if not isinstance(arguments, tuple) or len(arguments) != many:
        raise InvalidExpression(arguments)
    if not all([is_expression(kinds, argument) for argument in arguments]):
        raise InvalidExpression(arguments)


def refuse_wrong_aim(sight, name):
    """Raises InvalidExpression for what is neither None nor a name of a number of a sight."""
    if name is not None and not names_number(kinds_of(sight), name):
        raise InvalidExpression(name)


def refuse_wrong_step(sight, step):
    """Raises InvalidStep for what is no set, put, ask or guard over a sight."""
    if not is_step(kinds_of(sight), step):
        raise InvalidStep(step)


def is_step(kinds, value):
    """Whether a value is a set, put, ask or guard over names with these kinds."""
    word = first_word(value)
    if word == "set":
        return len(value) == 3 and names_number(kinds, value[1]) and is_expression(kinds, value[2])
    if word not in ("put", "ask", "guard") or len(value) != 4:
        return False
    if word == "ask":
        return names_number(kinds, value[1]) and is_low(value[2]) and is_high(value[2], value[3])
    if word == "put":
        is_right = names_row(kinds, value[1])
    else:
        is_right = isinstance(value[1], str) and value[1] in COMPARISONS
    return is_right and all([is_expression(kinds, part) for part in value[2:]])


def refuse_wrong_fault(fault):
    """Raises InvalidFault for what is no fault."""
    if not is_fault_word(fault):
        raise InvalidFault(fault)


def refuse_wrong_many_states(most):
    """Raises InvalidNumber for what is no bound of a search."""
    if not is_bound(most):
        raise InvalidNumber(most)


def refuse_wrong_low(low):
    """Raises InvalidNumber for what is neither a whole number nor None."""
    if low is not None and not is_whole(low):
        raise InvalidNumber(low)


def refuse_wrong_high(low, high):
    """Raises InvalidNumber for what is neither a whole number, from a low one on, nor None."""
    if high is not None and (not is_whole(high) or (low is not None and high < low)):
        raise InvalidNumber(high)
