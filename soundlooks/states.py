"""The states of a program: which values are states, what a state is, and where it goes."""

from soundlooks.basics import is_index, is_whole
from soundlooks.layout import layouts_of
from soundlooks.reckoning import is_so, judged, nought, taken
from soundlooks.sights import own_pairs

MOST_FRAMES = 301


def noughts(pairs):
    """The values with which some names begin."""
    return tuple([nought(pair[1]) for pair in pairs])


def is_value(kind, value):
    """Whether a value is one for a name of this kind."""
    if kind[0] == "num":
        return is_whole(value)
    if kind[0] == "word":
        return is_index(value, 1 << kind[1])
    return are_numbers(value, kind[1])


def are_numbers(value, many):
    """Whether a value is a tuple of so many whole numbers."""
    return isinstance(value, tuple) and len(value) == many and all([is_whole(number) for number in value])


def are_values(pairs, value):
    """Whether a value is a tuple of values for these names."""
    if not isinstance(value, tuple) or len(value) != len(pairs):
        return False
    return all([is_value(pair[1], one) for pair, one in zip(pairs, value)])


def value_put(pairs, own, name, value):
    """The values of some names with this one put in the place of a name's."""
    return tuple([value if pair[0] == name else one for pair, one in zip(pairs, own)])


class Machine:
    """A program with the graphs of its procedures."""

    def __init__(self, program):
        self.program = program
        self.layouts = layouts_of(program)
        self.indexes = {proc[0]: index for index, proc in enumerate(program[1])}

    def is_state(self, value):
        """Whether a value is a state of the program."""
        if not isinstance(value, tuple) or len(value) != 2:
            return False
        frames, shared = value
        if not isinstance(frames, tuple) or not 1 <= len(frames) <= MOST_FRAMES:
            return False
        if not all([self.is_frame(frame) for frame in frames]) or frames[0][0] != 0:
            return False
        if not all([self.called_at(ahead) == frame[0] for ahead, frame in zip(frames, frames[1:])]):
            return False
        return are_values(self.program[0], shared)

    def is_frame(self, value):
        """Whether a value is a frame, wherever it stands."""
        if not isinstance(value, tuple) or len(value) != 3 or not is_index(value[0], len(self.layouts)):
            return False
        proc, place, own = value
        end = self.layouts[proc].end
        if not is_index(place, end + 1):
            return False
        return are_numbers(own, 1) if place == end else are_values(own_pairs(self.program, proc), own)

    def called_at(self, frame):
        """The index of the procedure that is called at the place of a frame; None if it is not that of a call."""
        leaving = self.layouts[frame[0]].leaving[frame[1]]
        if leaving == [] or leaving[0][0][0] != "call":
            return None
        return self.indexes[leaving[0][0][2]]

    def first(self):
        """The first state."""
        return self.opened(0, ()), noughts(self.program[0])

    def opened(self, proc, given):
        """The tuple of one frame with which a procedure begins whose params have taken what was given."""
        return ((proc, 0, given + noughts(self.program[1][proc][2])),)

    def worths(self, state):
        """The dict of the names in sight of the last frame, with their values."""
        frames, shared = state
        proc, _, own = frames[-1]
        found = {}
        for pairs, told in ((self.program[0], shared), (own_pairs(self.program, proc), own)):
            for pair, one in zip(pairs, told):
                found[pair[0]] = one
        return found

    def step_at(self, state):
        """The step of the first edge from the place of the last frame; None if there is no edge."""
        proc, place, _ = state[0][-1]
        leaving = self.layouts[proc].leaving[place]
        return leaving[0][0] if leaving != [] else None

    def kind(self, state):
        """The pair (WORD, WHAT) that tells what a state is."""
        frames, _ = state
        proc, place, own = frames[-1]
        if place == self.layouts[proc].end:
            return ("done", own[0]) if len(frames) == 1 else ("goes", None)
        step = self.step_at(state)
        if step is None:
            return ("fault", "check")
        if step[0] == "ask":
            return ("waits", step[2:])
        _, stopped = judged(step, self.worths(state))
        return ("goes", None) if stopped is None else stopped

    def next_state(self, state, number):
        """The state to which one goes that goes or waits, by the number that comes in."""
        step = self.step_at(state)
        if step is None:
            return self.come_home(state)
        if step[0] == "ask":
            return self.led_on(self.with_number(state, step[1], number))
        worths = self.worths(state)
        numbers, _ = judged(step, worths)
        return self.done_step(state, step, worths, numbers)

    def done_step(self, state, step, worths, numbers):
        """The state behind a step other than an ask, whose expressions come to these numbers."""
        frames, shared = state
        proc = frames[-1][0]
        if step[0] == "call":
            return self.entered(state, self.indexes[step[2]], numbers)
        if step[0] == "give":
            return frames[:-1] + ((proc, self.layouts[proc].end, (numbers[0],)),), shared
        if step[0] == "guard":
            return self.led_on(state, 0 if is_so(step[1], numbers[0], numbers[1]) else 1)
        if step[0] == "set":
            return self.led_on(self.with_number(state, step[1], numbers[0]))
        index, number = numbers
        cells = worths[step[1]]
        return self.led_on(self.with_value(state, step[1], cells[:index] + (number,) + cells[index + 1:]))

    def entered(self, state, called, numbers):
        """The state in which a called procedure begins."""
        frames, shared = state
        params = self.program[1][called][1]
        given = tuple([taken(pair[1], number) for pair, number in zip(params, numbers)])
        return frames + self.opened(called, given), shared

    def come_home(self, state):
        """The state behind the END of a called procedure."""
        frames, shared = state
        caller = (frames[:-1], shared)
        aim = self.step_at(caller)[1]
        if aim is not None:
            caller = self.with_number(caller, aim, frames[-1][2][0])
        return self.led_on(caller)

    def led_on(self, state, edge=0):
        """The state with its last frame led along an edge."""
        frames, shared = state
        proc, place, own = frames[-1]
        return frames[:-1] + ((proc, self.layouts[proc].leaving[place][edge][1], own),), shared

    def with_number(self, state, name, number):
        """The state in which a name has taken a number."""
        pairs = self.program[0] + own_pairs(self.program, state[0][-1][0])
        kinds = dict(pairs)
        return self.with_value(state, name, taken(kinds[name], number))

    def with_value(self, state, name, value):
        """The state in which a name has this value."""
        frames, shared = state
        proc, place, own = frames[-1]
        own = value_put(own_pairs(self.program, proc), own, name, value)
        return frames[:-1] + ((proc, place, own),), value_put(self.program[0], shared, name, value)
