"""Refuses arguments that are not as told."""

from soundlooks.basics import COMPARISONS, MOST_WIDTH, is_index, is_whole
from soundlooks.errors import InvalidDifferences, InvalidEquations, InvalidGuard, InvalidIndex, InvalidInputs
from soundlooks.errors import InvalidMarks, InvalidNumber, InvalidPlace, InvalidProgram, InvalidRest, InvalidRow
from soundlooks.errors import InvalidRows, InvalidSize, InvalidSlot, InvalidSlots, InvalidStretch, InvalidValues
from soundlooks.errors import InvalidWidth
from soundlooks.gaps import is_gaps
from soundlooks.lines import is_lines, is_row_of
from soundlooks.residues import is_residue
from soundlooks.spans import is_span
from soundlooks.wrongs import wrong_program

MOST_INPUTS = 300
MOST_STEPS = 300
MOST_SLOTS = 20
MOST_EQUATION_ROWS = 60


def refuse_wrong_program(program):
    """Raises InvalidProgram for what is no program."""
    wrong = wrong_program(program)
    if wrong is not None:
        raise InvalidProgram(wrong)


def refuse_wrong_proc(program, proc):
    """Raises InvalidIndex for what is no index of a procedure."""
    if not is_index(proc, len(program[1])):
        raise InvalidIndex(proc)


def refuse_wrong_place(layout, place):
    """Raises InvalidPlace for what is no place of a graph."""
    if not is_index(place, layout.end + 1):
        raise InvalidPlace(place)


def refuse_wrong_inputs(inputs):
    """Raises InvalidInputs for what is no tuple of inputs."""
    if not isinstance(inputs, tuple) or len(inputs) > MOST_INPUTS:
        raise InvalidInputs(None)
    for index, number in enumerate(inputs):
        if not is_whole(number):
            raise InvalidInputs(index)


def refuse_wrong_most(most):
    """Raises InvalidNumber for what is no bound of steps."""
    if not is_index(most, MOST_STEPS + 1):
        raise InvalidNumber(most)


def refuse_wrong_stretch(stretch):
    """Raises InvalidStretch for what is no stretch."""
    if not is_span(stretch):
        raise InvalidStretch(stretch)


def refuse_wrong_rest(rest):
    """Raises InvalidRest for what is no rest."""
    if not is_residue(rest):
        raise InvalidRest(rest)


def refuse_wrong_number(number):
    """Raises InvalidNumber for what is no whole number."""
    if not is_whole(number):
        raise InvalidNumber(number)


def refuse_wrong_width(width):
    """Raises InvalidWidth for what is no width of a word."""
    if not is_whole(width) or not 1 <= width <= MOST_WIDTH:
        raise InvalidWidth(width)


def refuse_wrong_guard(guard):
    """Raises InvalidGuard for what is no guard."""
    if not isinstance(guard, str) or guard not in COMPARISONS:
        raise InvalidGuard(guard)


def refuse_wrong_marks(marks):
    """Raises InvalidMarks for what is no ascending tuple of whole numbers."""
    if not isinstance(marks, tuple):
        raise InvalidMarks(None)
    for index, mark in enumerate(marks):
        if not is_whole(mark) or (index > 0 and mark <= marks[index - 1]):
            raise InvalidMarks(index)


def refuse_wrong_many(many):
    """Raises InvalidSize for what is no number of slots."""
    if not is_index(many, MOST_SLOTS + 1):
        raise InvalidSize(many)


def refuse_wrong_differences(many, one):
    """Raises InvalidSize for what is no number of slots, InvalidDifferences for no differences of so many."""
    refuse_wrong_many(many)
    if not is_gaps(many, one):
        raise InvalidDifferences(one)


def refuse_wrong_equations(many, one):
    """Raises InvalidSize for what is no number of slots, InvalidEquations for no equations of so many."""
    refuse_wrong_many(many)
    if not is_lines(many, one):
        raise InvalidEquations(one)


def refuse_wrong_row(many, row):
    """Raises InvalidRow for what is no row, or form, of so many slots."""
    if not isinstance(row, tuple) or len(row) != many + 1:
        raise InvalidRow(None)
    for index, number in enumerate(row):
        if not is_whole(number):
            raise InvalidRow(index)


def refuse_wrong_rows(many, rows):
    """Raises InvalidRows for what is no tuple of rows of so many slots."""
    if not isinstance(rows, tuple) or len(rows) > MOST_EQUATION_ROWS:
        raise InvalidRows(None)
    for index, row in enumerate(rows):
        if not is_row_of(many, row):
            raise InvalidRows(index)


def refuse_wrong_slot(many, slot):
    """Raises InvalidSlot for what is no slot."""
    if not is_whole(slot) or not 1 <= slot <= many:
        raise InvalidSlot(slot)


def refuse_wrong_indexes(many, indexes):
    """Raises InvalidSlot for the first one that is neither a slot nor 0."""
    for index in indexes:
        if not is_index(index, many + 1):
            raise InvalidSlot(index)


def refuse_wrong_slots(many, slots):
    """Raises InvalidSlots for what is no tuple of unlike slots and None."""
    if not isinstance(slots, tuple) or len(slots) > MOST_SLOTS:
        raise InvalidSlots(None)
    for index, slot in enumerate(slots):
        if slot is not None and (not is_whole(slot) or not 1 <= slot <= many or slot in slots[:index]):
            raise InvalidSlots(index)


def refuse_wrong_values(many, values):
    """Raises InvalidValues for what is no tuple of so many whole numbers."""
    if not isinstance(values, tuple) or len(values) != many:
        raise InvalidValues(None)
    for index, number in enumerate(values):
        if not is_whole(number):
            raise InvalidValues(index)
