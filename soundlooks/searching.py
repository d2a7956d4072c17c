"""The search for runs: the numbers that are tried at asks, and the states that get numbers."""

from soundlooks.basics import is_whole
from soundlooks.lying import lies_last
from soundlooks.running import is_within
from soundlooks.states import Machine
from soundlooks.trees import marks_of

# If an ask lets in more numbers than these, only some of them are tried.
MOST_TRIED_ALL = 8
MOST_STATES = 300


def is_bound(value):
    """Whether a value is a bound of a search."""
    return is_whole(value) and 1 <= value <= MOST_STATES


def tried_between(marks, low, high):
    """The numbers that are tried at an ask with these bounds."""
    if low is not None and high is not None and high - low < MOST_TRIED_ALL:
        return tuple(range(low, high + 1))
    ends = [end for end in (low, high) if end is not None]
    return tuple(sorted(set([mark for mark in marks if is_within((low, high), mark)] + ends)))


class Search:
    """The states of a program that get numbers up to a bound, each with the inputs and steps that lead to it."""

    def __init__(self, program, most):
        self.machine = Machine(program)
        self.marks = marks_of(program)
        self.most = most
        self.states = []
        self.ways = []
        self.numbered = {}
        self.is_left_out = False
        self.is_all_tried = True
        self.reach(self.machine.first(), (), 0)
        self.look_on()

    def look_on(self):
        """Looks at each numbered state in turn, until one is left out: behind that no further one gets a number."""
        at = 0
        while at < len(self.states) and not self.is_left_out:
            state = self.states[at]
            inputs, steps = self.ways[at]
            word, what = self.machine.kind(state)
            if word == "goes":
                self.reach(self.machine.next_state(state, None), inputs, steps + 1)
            elif word == "waits":
                self.try_numbers(state, what, inputs, steps + 1)
            at += 1

    def try_numbers(self, state, bounds, inputs, steps):
        """Reaches the states to which one that waits goes by the numbers tried."""
        low, high = bounds
        tried = tried_between(self.marks, low, high)
        if low is None or high is None or len(tried) <= high - low:
            self.is_all_tried = False
        for number in tried:
            self.reach(self.machine.next_state(state, number), inputs + (number,), steps)

    def reach(self, state, inputs, steps):
        """Gives a state a number, if it has none and there is one left; otherwise it is left out."""
        if state in self.numbered:
            return
        if len(self.states) == self.most:
            self.is_left_out = True
            return
        self.numbered[state] = True
        self.states.append(state)
        self.ways.append((inputs, steps))

    def leaves_nothing_out(self):
        """Whether no state is left out, and at each ask all numbers within its bounds are tried."""
        return self.is_all_tried and not self.is_left_out

    def triples(self):
        """The tuple of all numbered states, each with its inputs and steps."""
        return tuple([(state,) + way for state, way in zip(self.states, self.ways)])

    def first_bearing(self, key, fault):
        """The inputs and steps of the first state that is at this fault at a place; None if there is none."""
        for state, way in zip(self.states, self.ways):
            if key_of(state) == key and fault_of(self.machine, state) == fault:
                return way
        return None

    def first_leaving(self, key, view):
        """The inputs and steps of the first state that leaves a look of a place; None if there is none."""
        for state, way in zip(self.states, self.ways):
            if leaves(self.machine, state, key, view):
                return way
        return None

    def first_wrong(self, key):
        """The place, fault and way of the first state that is at fault at a place, anywhere for None; None."""
        for state, way in zip(self.states, self.ways):
            if key is None or key_of(state) == key:
                fault = fault_of(self.machine, state)
                if fault is not None:
                    return key_of(state), fault, way
        return None


def key_of(state):
    """The pair of a procedure and a place at which the last frame of a state stands."""
    proc, place, _ = state[0][-1]
    return proc, place


def fault_of(machine, state):
    """The fault at which a state is; None if it is at none."""
    word, what = machine.kind(state)
    return what if word == "fault" else None


def leaves(machine, state, key, view):
    """Whether a state stands at a place and its values do not lie in a look of this place."""
    return key_of(state) == key and not lies_last(machine, view, state)
