"""The console: it holds a program, and answers lines that change it or ask about it."""

from soundlooks.alarms import flow_with_look
from soundlooks.asking import NO_SUCH_LINE, answer_to, is_number_word
from soundlooks.errors import InvalidProgram, InvalidText
from soundlooks.flows import best_rows
from soundlooks.sheets import look_lines
from soundlooks.tables import flow_of
from soundlooks.text import read, show
from soundlooks.trees import statement_count
from soundlooks.wrongs import wrong_program

# For each order: how many words stand behind it, at least and at most, None for any number; and from which of these
# words on, counted from 0, all are numbers, None if none is.
ORDERS = {
    "put": (0, None, None),
    "add": (0, None, None),
    "drop": (1, 1, None),
    "undo": (0, 0, None),
    "show": (0, 0, None),
    "places": (1, 1, None),
    "run": (1, 301, 0),
    "look": (2, 2, 1),
    "alarms": (1, 1, 0),
    "changes": (0, 0, None),
}


class Console:
    """Holds a program or none, and those that were held ahead, the oldest first."""

    def __init__(self):
        self.held = None
        self.held_ahead = []

    def program(self):
        """The program that is held; None."""
        return self.held

    def say(self, line):
        """The answer to a line."""
        if not isinstance(line, str):
            raise InvalidText(None, None)
        words = words_of(line)
        if not is_line(words):
            return NO_SUCH_LINE
        order = words[0]
        if order == "undo":
            return self.undo()
        if order == "put":
            return self.hold_text(text_behind(line, order))
        if self.held is None:
            return ("no program",)
        if order == "add":
            return self.hold_text(show(self.held) + text_behind(line, order))
        if order == "drop":
            return self.drop(words[1])
        return answer_to(self.held, words)

    def undo(self):
        """Holds again what was held ahead."""
        if self.held_ahead == []:
            return ("nothing to undo",)
        self.held = self.held_ahead.pop()
        return ("undone",)

    def hold_text(self, text):
        """Holds the program that is read from a text, if it is one."""
        try:
            program = read(text)
        except InvalidText as bad:
            return (f"bad text at {bad.line} {bad.column}",)
        except InvalidProgram as wrong:
            return (wrong_text(wrong.place),)
        return self.hold(program)

    def drop(self, name):
        """Holds what is held without the procedure of a name, if that is a program."""
        pairs, procs = self.held
        left = tuple([proc for proc in procs if proc[0] != name])
        if len(left) == len(procs):
            return NO_SUCH_LINE
        place = wrong_program((pairs, left))
        if place is not None:
            return (wrong_text(place),)
        return self.hold((pairs, left))

    def hold(self, program):
        """Holds a program."""
        self.held_ahead.append(self.held)
        self.held = program
        return (f"{statement_count(program)} statements",)


def best_table(program):
    """The table of a program analysed by no order, narrowed at all places once."""
    return best_rows(flow_of(program))


def shown_look(program, proc, place, look):
    """The tuple of the texts that show a look of a place."""
    flow = flow_with_look(program, proc, place, look)
    return look_lines(flow.sight_of_place((proc, place)), look)


def words_of(line):
    """The list of the words of a line."""
    return [word for word in line.replace("\n", " ").split(" ") if word != ""]


def is_line(words):
    """Whether words are a line, whatever is held."""
    if words == [] or words[0] not in ORDERS:
        return False
    least, most, first_number = ORDERS[words[0]]
    told = words[1:]
    if len(told) < least or (most is not None and len(told) > most):
        return False
    return first_number is None or all([is_number_word(word) for word in told[first_number:]])


def text_behind(line, order):
    """All that stands behind the order of a line and one blank or line feed."""
    # Ahead of the order there are blanks and line feeds alone.
    return line[line.find(order) + len(order) + 1:]


def wrong_text(place):
    """The answer to a tree that is no program, by the path at which it is wrong."""
    return " ".join(["wrong at"] + [str(index) for index in place])
