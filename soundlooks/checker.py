"""A small checker: which claims are borne out by which papers, whatever both are."""

from soundlooks.arguments import MOST_INPUTS, MOST_STEPS
from soundlooks.basics import first_word, is_index
from soundlooks.flows import Board, Flow
from soundlooks.running import led
from soundlooks.searching import Search, fault_of, is_bound, key_of, leaves
from soundlooks.states import Machine, are_numbers
from soundlooks.telling import alarms_told, faults_told, is_fault_word
from soundlooks.views import is_view, view_within
from soundlooks.wrongs import wrong_program

# What each claim is about; and how many elements a claim about that has.
CLAIMS = {
    "closed": "table",
    "not closed": "table",
    "stays": "look",
    "leaves": "look",
    "safe": "place",
    "wrong": "fault",
    "never wrong": "program",
}
SIZES = {"program": 2, "table": 3, "place": 4, "look": 5, "fault": 5}


def accepts(claim, paper):
    """Whether a claim is one for the checker, and a paper is one for it."""
    word = first_word(claim)
    if word not in CLAIMS or len(claim) != SIZES[CLAIMS[word]] or wrong_program(claim[1]) is not None:
        return False
    flow = Flow(claim[1])
    told = claim[2:]
    if not is_told(flow, CLAIMS[word], told):
        return False
    if word == "closed":
        return isinstance(paper, tuple) and len(paper) == 0 and is_closed_table(flow, told[0])
    if word == "not closed":
        return flow.is_place(paper) and not Board(flow, told[0]).holds_coming(paper)
    if word in ("leaves", "wrong"):
        return is_borne_by_run(flow.program, word, told, paper)
    return is_borne_by_all_runs(flow, word, told, paper)


def is_told(flow, about, told):
    """Whether what stands behind the program in a claim is as told."""
    if about == "program":
        return True
    if about == "table":
        return flow.is_table(told[0])
    if not flow.is_place(told[:2]):
        return False
    if about == "look":
        return is_view(flow.sight_of_place(told[:2]), told[2])
    return about == "place" or is_fault_word(told[2])


def is_closed_table(flow, table):
    """Whether a table is closed."""
    return Board(flow, table).open_key() is None


def is_borne_by_run(program, word, told, paper):
    """Whether a paper is a run paper whose last state does what "leaves" or "wrong" claims."""
    machine = Machine(program)
    state = last_state(machine, paper)
    if state is None:
        return False
    if word == "leaves":
        return leaves(machine, state, told[:2], told[2])
    return key_of(state) == told[:2] and fault_of(machine, state) == told[2]


def last_state(machine, paper):
    """The last state of a run paper; None for what is no run paper."""
    if not isinstance(paper, tuple) or len(paper) != 2:
        return None
    inputs, steps = paper
    if not isinstance(inputs, tuple) or len(inputs) > MOST_INPUTS or not are_numbers(inputs, len(inputs)):
        return None
    if not is_index(steps, MOST_STEPS + 1):
        return None
    _, states, used = led(machine, inputs, steps)
    return states[-1] if len(states) == steps + 1 and used == len(inputs) else None


def is_borne_by_all_runs(flow, word, told, paper):
    """Whether a paper is a whole paper from which "stays", "safe" or "never wrong" follows."""
    kind = first_word(paper)
    if kind not in ("table", "states") or len(paper) != 2:
        return False
    if kind == "table":
        table = paper[1]
        return flow.is_table(table) and is_closed_table(flow, table) and follows_from_table(flow, word, told, table)
    if not is_bound(paper[1]):
        return False
    search = Search(flow.program, paper[1])
    return search.leaves_nothing_out() and follows_from_states(search, word, told)


def follows_from_table(flow, word, told, table):
    """Whether a claim of all runs follows from a closed table."""
    if word == "never wrong":
        return alarms_told(flow, table) == ()
    proc, place = told[:2]
    look = table[proc][place]
    if word == "safe":
        return faults_told(flow, (proc, place), look) == ()
    return view_within(look, told[2])


def follows_from_states(search, word, told):
    """Whether a claim of all runs follows from the states of a whole search."""
    if word == "never wrong":
        return search.first_wrong(None) is None
    if word == "safe":
        return search.first_wrong(told[:2]) is None
    return search.first_leaving(told[:2], told[2]) is None
