"""The plain meaning of programs, told without graphs."""

from soundlooks.arguments import refuse_wrong_inputs, refuse_wrong_most, refuse_wrong_program
from soundlooks.doing import Doing


def plain_run(program, inputs, most):
    """The tuple (WORD, WHAT, STEPS, USED, GLOBALS) of a program done with these inputs, up to MOST steps."""
    refuse_wrong_program(program)
    refuse_wrong_inputs(inputs)
    refuse_wrong_most(most)
    doing = Doing(program, inputs, most)
    doing.go()
    return doing.ended + (doing.steps, doing.used, tuple(list(doing.shared.values())))
