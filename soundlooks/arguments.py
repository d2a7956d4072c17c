"""Refuses arguments that are not as told."""

from soundlooks.basics import is_index
from soundlooks.errors import InvalidIndex, InvalidProgram
from soundlooks.wrongs import wrong_program


def refuse_wrong_program(program):
    """Raises InvalidProgram for what is no program."""
    wrong = wrong_program(program)
    if wrong is not None:
        raise InvalidProgram(wrong)


def refuse_wrong_proc(program, proc):
    """Raises InvalidIndex for what is no index of a procedure."""
    if not is_index(proc, len(program[1])):
        raise InvalidIndex(proc)
