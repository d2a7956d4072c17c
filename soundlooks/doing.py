"""Does a program statement by statement, without graphs."""

from soundlooks.layout import GIVE_NOTHING
from soundlooks.reckoning import is_so, judged, nought, taken


class OpenCall:
    """A call that is open: its names' kinds and values, where its number goes, and the statements left to do."""

    def __init__(self, pairs, aim, body):
        self.kinds = dict(pairs)
        self.own = {pair[0]: nought(pair[1]) for pair in pairs}
        self.aim = aim
        self.given = None
        # The next one stands last.
        self.left = list(reversed(body))


class Doing:
    """A program that is being done: the values of its globals, its open calls, its steps and inputs so far."""

    def __init__(self, program, inputs, most):
        self.procs = {proc[0]: proc for proc in program[1]}
        self.inputs = inputs
        self.most = most
        self.steps = 0
        self.used = 0
        self.kinds = dict(program[0])
        self.shared = {pair[0]: nought(pair[1]) for pair in program[0]}
        self.calls = [open_call(program[1][0], None)]
        self.ended = None

    def go(self):
        """Does what is left to do, until something ends it."""
        while self.ended is None:
            call = self.calls[-1]
            if call.given is not None:
                self.come_home(call)
            elif call.left == []:
                self.do(call, GIVE_NOTHING)
            else:
                self.do(call, call.left.pop())

    def do(self, call, statement):
        """Does a statement, or as much of it as comes ahead of its blocks."""
        word = statement[0]
        if word in ("if", "while", "check"):
            answer = self.answer(statement[1])
            if answer is not None:
                self.choose(call, statement, answer)
        elif word == "ask":
            self.take_in(call, statement)
        else:
            numbers = self.numbers_for(statement)
            if numbers is not None:
                self.bring_about(call, statement, numbers)

    def choose(self, call, statement, answer):
        """Goes on behind a condition that is so or is not."""
        if statement[0] == "if":
            call.left.extend(list(reversed(statement[2] if answer else statement[3])))
        elif statement[0] == "while":
            if answer:
                call.left.append(statement)
                call.left.extend(list(reversed(statement[2])))
        elif not answer:
            self.ended = ("fault", "check")

    def bring_about(self, call, statement, numbers):
        """Does a set, put, call or give whose expressions come to these numbers."""
        word = statement[0]
        if word == "set":
            self.give_number(call, statement[1], numbers[0])
        elif word == "put":
            cells = list(self.worth_of_name(call, statement[1]))
            cells[numbers[0]] = numbers[1]
            self.give_value(call, statement[1], tuple(cells))
        elif word == "call":
            proc = self.procs[statement[2]]
            called = open_call(proc, statement[1])
            for pair, number in zip(proc[1], numbers):
                self.give_number(called, pair[0], number)
            self.calls.append(called)
        else:
            call.given = numbers[0]

    def take_in(self, call, statement):
        """Does an ask, if the next input is within its bounds."""
        _, name, low, high = statement
        if self.used < len(self.inputs):
            number = self.inputs[self.used]
            if (low is None or low <= number) and (high is None or number <= high):
                if self.may_step():
                    self.used += 1
                    self.give_number(call, name, number)
                return
        self.ended = ("waits", (low, high))

    def come_home(self, call):
        """Ends a call that has given its number."""
        if len(self.calls) == 1:
            self.ended = ("done", call.given)
        elif self.may_step():
            self.calls.pop()
            if call.aim is not None:
                self.give_number(self.calls[-1], call.aim, call.given)

    def answer(self, condition):
        """Whether a condition is so; None if this is where the program ends."""
        word = condition[0]
        if word == "not":
            inner = self.answer(condition[1])
            return None if inner is None else not inner
        if word in ("and", "or"):
            first = self.answer(condition[1])
            if first is None or first == (word == "or"):
                return first
            return self.answer(condition[2])
        numbers = self.numbers_for(("guard",) + condition)
        return None if numbers is None else is_so(word, numbers[0], numbers[1])

    def numbers_for(self, step):
        """What the expressions of a step come to, the step being counted; None if this is where the program ends."""
        call = self.calls[-1]
        numbers, stopped = judged(step, {**self.shared, **call.own})
        if stopped is not None:
            self.ended = stopped
            return None
        return numbers if self.may_step() else None

    def may_step(self):
        """Counts a step, if it is not one too many; whether it is not."""
        if self.steps == self.most:
            self.ended = ("goes", None)
            return False
        self.steps += 1
        return True

    def worth_of_name(self, call, name):
        """The value of a name in a call."""
        return self.shared[name] if name in self.shared else call.own[name]

    def give_number(self, call, name, number):
        """Lets a name in a call take a number."""
        kind = self.kinds[name] if name in self.kinds else call.kinds[name]
        self.give_value(call, name, taken(kind, number))

    def give_value(self, call, name, value):
        """Puts a value in the place of a name's in a call."""
        if name in self.shared:
            self.shared[name] = value
        else:
            call.own[name] = value


def open_call(proc, aim):
    """The call of a procedure whose params have not taken anything so far."""
    return OpenCall(proc[1] + proc[2], aim, proc[3])
