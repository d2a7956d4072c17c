"""What steps make of looks."""

from soundlooks.arguments import refuse_wrong_proc, refuse_wrong_program
from soundlooks.forms import form_in
from soundlooks.gaps import closing
from soundlooks.refusals import refuse_wrong_aim, refuse_wrong_arguments, refuse_wrong_expression, refuse_wrong_look
from soundlooks.refusals import refuse_wrong_sight, refuse_wrong_step
from soundlooks.sights import sight_at_end, sight_in
from soundlooks.steps import effect, effect_of_give_step, first_view, view_behind
from soundlooks.views import exchange
from soundlooks.worths import NONE, Outlook, index_of


def form_of(sight, expression):
    """The form of an expression; None if none is told."""
    refuse_wrong_sight(sight)
    refuse_wrong_expression(sight, expression)
    return form_in(index_of(sight[0]), expression)


def worth_of(sight, look, expression):
    """The worth of an expression in a look as it stands."""
    refuse_wrong_outlook(sight, look, expression)
    return NONE if look is None else Outlook(sight, look, closing(look[2])).worth(expression)


def faults_in(sight, look, expression):
    """The faults that an expression may bear in a look as it stands."""
    refuse_wrong_outlook(sight, look, expression)
    return () if look is None else Outlook(sight, look, closing(look[2])).faults(expression)


def effect_of(sight, look, step):
    """The effect of a set, put, ask or guard on a look."""
    refuse_wrong_sight(sight)
    refuse_wrong_look(sight, look)
    refuse_wrong_step(sight, step)
    return effect(sight, exchange(look), step)


def effect_of_give(program, index, look, expression):
    """The effect of a give on a look, with the look for the end's sight."""
    refuse_wrong_caller(program, index)
    sight = sight_in(program, index)
    refuse_wrong_look(sight, look)
    refuse_wrong_expression(sight, expression)
    return effect_of_give_step(sight, sight_at_end(program), exchange(look), expression)


def first_look(program, index, called, look, arguments):
    """The first look of a procedure that is called with arguments from a look."""
    refuse_wrong_caller(program, index)
    refuse_wrong_proc(program, called)
    sight = sight_in(program, index)
    refuse_wrong_look(sight, look)
    refuse_wrong_arguments(sight, len(program[1][called][1]), arguments)
    return first_view(program, index, called, exchange(look), arguments)


def look_behind(program, index, name, look, end):
    """The look behind a call to a name, or None, from the look there and one at the called procedure's END."""
    refuse_wrong_caller(program, index)
    sight = sight_in(program, index)
    refuse_wrong_aim(sight, name)
    refuse_wrong_look(sight, look)
    refuse_wrong_look(sight_at_end(program), end)
    return view_behind(program, index, name, exchange(look), exchange(end))


def refuse_wrong_caller(program, index):
    """Raises an error for what is no program, or no index of a procedure of it."""
    refuse_wrong_program(program)
    refuse_wrong_proc(program, index)


def refuse_wrong_outlook(sight, look, expression):
    """Raises an error for what is no sight, no look or no expression of it."""
    refuse_wrong_sight(sight)
    refuse_wrong_look(sight, look)
    refuse_wrong_expression(sight, expression)
