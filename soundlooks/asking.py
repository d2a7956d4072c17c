"""What the console answers to lines that only ask about a program."""

from soundlooks.alarms import answers
from soundlooks.arguments import MOST_STEPS
from soundlooks.basics import FIGURES, MOST_FIGURES, is_index
from soundlooks.flows import Flow, best_rows
from soundlooks.layout import Layout
from soundlooks.lying import last_values
from soundlooks.machine import run
from soundlooks.searching import is_bound, key_of
from soundlooks.sheets import look_lines
from soundlooks.showing import shown_page
from soundlooks.sights import sight_at, sight_at_end
from soundlooks.states import Machine
from soundlooks.tables import changes_of

NO_SUCH_LINE = ("no such line",)


def is_number_word(word):
    """Whether a word of a line is a number."""
    figures = word[1:] if word[:1] == "-" else word
    if figures == "0":
        return word == "0"
    if not 1 <= len(figures) <= MOST_FIGURES + 1 or figures[0] == "0":
        return False
    return all([sign in FIGURES for sign in figures])


def index_of_proc(program, name):
    """The index of the procedure of a name; None if there is none."""
    for index, proc in enumerate(program[1]):
        if proc[0] == name:
            return index
    return None


def show_answer(program, _):
    """The lines of the shown text."""
    return tuple(shown_page(program).lines)


def places_answer(program, told):
    """The line of the shown text for each place of a procedure."""
    proc = index_of_proc(program, told[0])
    if proc is None:
        return NO_SUCH_LINE
    return tuple([f"{place} at {line}" for place, line in enumerate(lines_of_places(program, proc))])


def lines_of_places(program, proc):
    """The list of the lines of the shown text on which the places of a procedure stand."""
    page = shown_page(program)
    begun = dict(page.begun)
    return [page.ended[proc] if path is None else begun[path] for path in Layout(program, proc).paths]


def run_answer(program, told):
    """What a run comes to, and the values that it ends with."""
    numbers = [int(word) for word in told]
    if not is_index(numbers[0], MOST_STEPS + 1):
        return NO_SUCH_LINE
    word, what, _, _, state = run(program, tuple(numbers[1:]), numbers[0])
    machine = Machine(program)
    proc, place = key_of(state)
    values, cells = last_values(machine, state)
    if word == "done":
        names, rows = sight_at_end(program)
        # The given number is told already.
        return (f"done {what}",) + value_lines((names[:-1], rows), values, cells)
    line = lines_of_places(program, proc)[place]
    first = f"fault {what} at {line}" if word == "fault" else f"{word} at {line}"
    return (first,) + value_lines(sight_at(program, machine.layouts[proc], proc, place), values, cells)


def value_lines(sight, numbers, cells):
    """The texts of the values of the numbers and rows of a sight."""
    told = [f"{pair[0]} = {number}" for pair, number in zip(sight[0], numbers)]
    for pair, row in zip(sight[1], cells):
        told.append(f"{pair[0]} = {numbers_text(row)}")
    return tuple(told)


def numbers_text(numbers):
    """The text of some numbers."""
    return " ".join([str(number) for number in numbers])


def look_answer(program, told):
    """The look of a place, shown."""
    flow = Flow(program)
    key = (index_of_proc(program, told[0]), int(told[1]))
    if not flow.is_place(key):
        return NO_SUCH_LINE
    return look_lines(flow.sight_of_place(key), best_rows(flow)[key[0]][key[1]])


def alarms_answer(program, told):
    """The answers to the alarms of the table."""
    most = int(told[0])
    if not is_bound(most):
        return NO_SUCH_LINE
    found = answers(program, best_rows(Flow(program)), most)
    if found == ():
        return ("no alarms",)
    return tuple([f"{program[1][proc][0]} {place} {fault}: {reply_text(reply)}" for proc, place, fault, reply in found])


def reply_text(reply):
    """The text of the answer to an alarm."""
    if reply[0] != "run":
        return reply[0]
    _, inputs, steps = reply
    behind = "" if inputs == () else f" with {numbers_text(inputs)}"
    return f"run in {steps} steps{behind}"


def changes_answer(program, _):
    """How many looks change something, of how many at most."""
    changed, number = changes_of(program, ())
    return (f"{changed} of {number}",)


# The orders that only ask, each with what answers it for a program and the words behind the order.
ASKING = {
    "show": show_answer,
    "places": places_answer,
    "run": run_answer,
    "look": look_answer,
    "alarms": alarms_answer,
    "changes": changes_answer,
}


def answer_to(program, words):
    """The answer to a line that only asks about a program."""
    action = ASKING[words[0]]
    return action(program, words[1:])
