"""Refuses arguments that are not as told."""

from soundlooks.basics import is_index, is_whole
from soundlooks.errors import InvalidIndex, InvalidInputs, InvalidNumber, InvalidPlace, InvalidProgram
from soundlooks.wrongs import wrong_program

MOST_INPUTS = 300
MOST_STEPS = 300


def refuse_wrong_program(program):
    """Raises InvalidProgram for what is no program."""
    wrong = wrong_program(program)
    if wrong is not None:
        raise InvalidProgram(wrong)


def refuse_wrong_proc(program, proc):
    """Raises InvalidIndex for what is no index of a procedure."""
    if not is_index(proc, len(program[1])):
        raise InvalidIndex(proc)


def refuse_wrong_place(layout, place):
    """Raises InvalidPlace for what is no place of a graph."""
    if not is_index(place, layout.end + 1):
        raise InvalidPlace(place)


def refuse_wrong_inputs(inputs):
    """Raises InvalidInputs for what is no tuple of inputs."""
    if not isinstance(inputs, tuple) or len(inputs) > MOST_INPUTS:
        raise InvalidInputs(None)
    for index, number in enumerate(inputs):
        if not is_whole(number):
            raise InvalidInputs(index)


def refuse_wrong_most(most):
    """Raises InvalidNumber for what is no bound of steps."""
    if not is_index(most, MOST_STEPS + 1):
        raise InvalidNumber(most)
