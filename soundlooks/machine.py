"""The machine: states, what they are, where they go, and runs."""

from soundlooks.arguments import refuse_wrong_inputs, refuse_wrong_most, refuse_wrong_program
from soundlooks.errors import InvalidNumber, InvalidState, NotGoing
from soundlooks.running import is_within, led
from soundlooks.states import Machine


def first_state(program):
    """The first state of a program."""
    refuse_wrong_program(program)
    return Machine(program).first()


def kind_of(program, state):
    """What a state is: ("done", NUMBER), ("fault", WORD), ("great", None), ("waits", BOUNDS) or ("goes", None)."""
    return machine_with(program, state).kind(state)


def moved(program, state, number):
    """The state to which a state goes, a waiting one by a number, all others by None."""
    machine = machine_with(program, state)
    word, what = machine.kind(state)
    refuse_wrong_input(word, what, number)
    if word not in ("waits", "goes"):
        raise NotGoing()
    return machine.next_state(state, number)


def run(program, inputs, most):
    """The tuple (WORD, WHAT, STEPS, USED, STATE) of the run with these inputs, of up to MOST steps."""
    end, states, used = run_of(program, inputs, most)
    return end + (len(states) - 1, used, states[-1])


def states_of(program, inputs, most):
    """The tuple of all states of a run, in order."""
    _, states, _ = run_of(program, inputs, most)
    return tuple(states)


def machine_with(program, state):
    """The machine of a program, neither this nor a state of it being taken for granted."""
    refuse_wrong_program(program)
    machine = Machine(program)
    if not machine.is_state(state):
        raise InvalidState(state)
    return machine


def refuse_wrong_input(word, what, number):
    """Raises InvalidNumber for what cannot come in at a state of this kind."""
    if word != "waits":
        if number is not None:
            raise InvalidNumber(number)
    elif not is_within(what, number):
        raise InvalidNumber(number)


def run_of(program, inputs, most):
    """A triple: what the run comes to, (WORD, WHAT); the list of its states; how many inputs it took."""
    refuse_wrong_program(program)
    refuse_wrong_inputs(inputs)
    refuse_wrong_most(most)
    return led(Machine(program), inputs, most)
