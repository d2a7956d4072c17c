"""Leads a program on with inputs, step by step."""

from soundlooks.basics import is_whole


def is_within(bounds, number):
    """Whether a value is a whole number within the bounds of an ask."""
    low, high = bounds
    if not is_whole(number) or (low is not None and number < low):
        return False
    return high is None or number <= high


def led(machine, inputs, most):
    """A triple: what a run of up to so many steps comes to, (WORD, WHAT); the list of its states; how many inputs."""
    states = [machine.first()]
    used = 0
    while True:
        word, what = machine.kind(states[-1])
        is_fed = word == "waits" and used < len(inputs) and is_within(what, inputs[used])
        if word != "goes" and not is_fed:
            return (word, what), states, used
        if len(states) > most:
            return ("goes", None), states, used
        states.append(machine.next_state(states[-1], inputs[used] if is_fed else None))
        used += 1 if is_fed else 0
