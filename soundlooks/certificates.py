"""Certificates: claims of a program, each with a paper that the checker accepts."""

from soundlooks.alarms import flow_with_look, search_of
from soundlooks.checker import accepts
from soundlooks.flows import Flow, analysed_by
from soundlooks.refusals import refuse_wrong_many_states
from soundlooks.tables import board_of, flow_at, flow_of


def certify_table(program, table):
    """The claim that a table is closed, or that it is not, with its paper."""
    key = board_of(program, table).open_key()
    if key is None:
        return ("closed", program, table), ()
    return ("not closed", program, table), key


def certify_look(program, proc, place, look, most):
    """The claim that all runs stay within a look of a place, or that one leaves it, with its paper; None."""
    flow_with_look(program, proc, place, look)
    refuse_wrong_many_states(most)
    claim = ("stays", program, proc, place, look)
    paper = whole_paper(claim, most)
    if paper is not None:
        return claim, paper
    way = search_of(program, most).first_leaving((proc, place), look)
    return None if way is None else (("leaves", program, proc, place, look), way)


def certify_place(program, proc, place, most):
    """The claim that no run is at fault at a place, or that one is, with its paper; None."""
    flow_at(program, proc, place)
    refuse_wrong_many_states(most)
    return certified_faults(("safe", program, proc, place), (proc, place), most)


def certify_program(program, most):
    """The claim that no run goes wrong, or that one does, with its paper; None."""
    flow_of(program)
    refuse_wrong_many_states(most)
    return certified_faults(("never wrong", program), None, most)


def certified_faults(claim, key, most):
    """A claim that there is no fault at a place, anywhere for None, or that there is one, with its paper; None."""
    paper = whole_paper(claim, most)
    if paper is not None:
        return claim, paper
    program = claim[1]
    told = search_of(program, most).first_wrong(key)
    if told is None:
        return None
    (proc, place), fault, way = told
    return ("wrong", program, proc, place, fault), way


def whole_paper(claim, most):
    """The first whole paper that is one for a claim; None if none of those that are tried will do."""
    board, _ = analysed_by(Flow(claim[1]), ())
    paper = ("table", board.table())
    if accepts(claim, paper):
        return paper
    board.narrow_everywhere()
    paper = ("table", board.table())
    if accepts(claim, paper):
        return paper
    paper = ("states", most)
    return paper if accepts(claim, paper) else None
