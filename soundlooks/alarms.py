"""Alarms: where something may go wrong, and the search for runs that bear them."""

from soundlooks.arguments import refuse_wrong_program
from soundlooks.refusals import refuse_wrong_fault, refuse_wrong_high, refuse_wrong_look, refuse_wrong_low
from soundlooks.refusals import refuse_wrong_many_states
from soundlooks.searching import Search, tried_between
from soundlooks.tables import board_of, flow_at
from soundlooks.telling import alarms_told, faults_told
from soundlooks.trees import marks_of


def faults_at(program, proc, place, look):
    """The tuple of the faults that a look tells at a place."""
    flow = flow_with_look(program, proc, place, look)
    return faults_told(flow, (proc, place), look)


def alarms(program, table):
    """The tuple of the alarms of a table, closed or not."""
    return alarms_told(board_of(program, table).flow, table)


def tried_numbers(program, low, high):
    """The tuple of the numbers that are tried at an ask with these bounds."""
    refuse_wrong_program(program)
    refuse_wrong_low(low)
    refuse_wrong_high(low, high)
    return tried_between(marks_of(program), low, high)


def found(program, most):
    """The tuple of the triples (STATE, INPUTS, STEPS) of all numbered states."""
    return search_of(program, most).triples()


def is_whole_search(program, most):
    """Whether a search is whole."""
    return search_of(program, most).leaves_nothing_out()


def bearing_run(program, proc, place, fault, most):
    """The pair (INPUTS, STEPS) of the first numbered state that bears an alarm; None if there is none."""
    flow_at(program, proc, place)
    refuse_wrong_fault(fault)
    return search_of(program, most).first_bearing((proc, place), fault)


def leaving_run(program, proc, place, look, most):
    """The pair (INPUTS, STEPS) of the first numbered state that leaves a look; None if there is none."""
    flow_with_look(program, proc, place, look)
    return search_of(program, most).first_leaving((proc, place), look)


def answers(program, table, most):
    """The tuple of (PROC, PLACE, FAULT, ANSWER) for each alarm of a table."""
    flow = board_of(program, table).flow
    search = search_of(program, most)
    return tuple([alarm + (answer_by(search, alarm),) for alarm in alarms_told(flow, table)])


def answer_by(search, alarm):
    """The answer that a search gives to an alarm."""
    proc, place, fault = alarm
    way = search.first_bearing((proc, place), fault)
    if way is not None:
        return ("run",) + way
    return ("never",) if search.leaves_nothing_out() else ("open",)


def search_of(program, most):
    """The search of a program; neither this nor the bound is taken for granted."""
    refuse_wrong_program(program)
    refuse_wrong_many_states(most)
    return Search(program, most)


def flow_with_look(program, proc, place, look):
    """The flow of a program; neither this, nor a place, nor a look of it is taken for granted."""
    flow = flow_at(program, proc, place)
    refuse_wrong_look(flow.sight_of_place((proc, place)), look)
    return flow
