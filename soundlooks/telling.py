"""Which faults looks tell: at a place, and in a whole table."""

from soundlooks.reckoning import asked_by
from soundlooks.steps import outlook_on
from soundlooks.views import exchange

FAULTS = ("zero", "cell", "check")


def is_fault_word(value):
    """Whether a value is one of the texts that tell faults."""
    return isinstance(value, str) and value in FAULTS


def faults_told(flow, key, look):
    """The faults that a look tells at a place."""
    proc, place = key
    layout = flow.layouts[proc]
    view = exchange(look)
    if view is None or place == layout.end:
        return ()
    if place in layout.failing:
        return ("check",)
    outlook = outlook_on(flow.sight_of_place(key), view)
    found = []
    for expression in judged_by(layout.leaving[place][0][0]):
        found.extend(outlook.faults_found(expression))
    return tuple([fault for fault in FAULTS if fault in found])


def judged_by(step):
    """The expressions that a step reckons, for a put with the cell into which it puts."""
    if step[0] == "put":
        return asked_by(step) + (("cell", step[1], step[2]),)
    return asked_by(step)


def alarms_told(flow, table):
    """The triples (PROC, PLACE, FAULT) that the looks of a table tell, in order."""
    return tuple([key + (fault,) for key in flow.places for fault in faults_told(flow, key, table[key[0]][key[1]])])
