"""Looks, effects and tables once more, as the document tells them word by word, by the functions for their parts."""

from fractions import Fraction

from soundlooks import differences as d
from soundlooks import equations as e
from soundlooks import looks, rests, stretches
from soundlooks.graphs import graph_of
from soundlooks.trees import marks_of

GREAT = 2 ** 1300
GRAIN = 20160
FREE = ((None, None), (0, 1))
NOUGHT = ((0, 0), (0, 0))
NONE = ((), ())


class Nothing(Exception):
    """Something holds nothing."""


def some(value):
    if value is None or value == () or value == NONE:
        raise Nothing
    return value


def or_none(call, *given):
    try:
        return call(*given)
    except Nothing:
        return None


class Draft:
    """A look that is worked on: lists of pairs, differences and equations of n names, pairs of rows."""

    def __init__(self, look):
        self.pairs = [list(pair) for pair in zip(look[0], look[1])]
        self.n = len(self.pairs)
        self.differences, self.equations = look[2], look[3]
        self.cells = list(look[4])

    def look(self):
        return (tuple(pair[0] for pair in self.pairs), tuple(pair[1] for pair in self.pairs), some(self.differences),
                self.equations, tuple(self.cells))

    def meet(self, at, stretch):
        self.pairs[at][0] = some(stretches.stretch_met(self.pairs[at][0], stretch))

    def meet_rest(self, at, rest):
        self.pairs[at][1] = some(rests.rest_met(self.pairs[at][1], rest))

    def sum_of(self, numbers, c, without):
        """The stretch and the rest of c and all names but one times their numbers."""
        stretch, rest = (c, c), (c, 0)
        for at, number in enumerate(numbers):
            if at != without:
                stretch = stretches.stretch_sum(stretch, stretches.stretch_product((number, number), self.pairs[at][0]))
                rest = rests.rest_sum(rest, rests.rest_product((number, 0), self.pairs[at][1]))
        return stretch, rest

    def guard(self, i, j, bound):
        self.differences = some(d.differences_guarded(self.n, self.differences, i, j, bound))

    def keep(self, slots, cells):
        self.pairs = [list(FREE) if slot is None else self.pairs[slot - 1] for slot in slots]
        self.differences = some(d.differences_kept(self.n, self.differences, tuple(slots)))
        self.equations = e.equations_kept(self.n, self.equations, tuple(slots))
        self.n = len(slots)
        self.cells = list(cells)


def solved(a, stretch):
    """The least stretch of the x with a x in a stretch."""
    if a < 0:
        return solved(-a, stretches.stretch_back(stretch))
    low = None if stretch[0] is None else -((-stretch[0]) // a)
    high = None if stretch[1] is None else stretch[1] // a
    return () if low is not None and high is not None and low > high else (low, high)


def exchanged(look):
    for _ in range(2):
        look = None if look is None else or_none(one_round, look)
    return look


def one_round(look):
    draft = Draft(look)
    n = draft.n
    draft.pairs = [list(some(rests.settled(*pair))) for pair in draft.pairs]
    draft.differences = some(d.closed_differences(n, draft.differences))
    for at, (stretch, _) in enumerate(draft.pairs):
        if stretch[1] is not None:
            draft.guard(at + 1, 0, stretch[1])
        if stretch[0] is not None:
            draft.guard(0, at + 1, -stretch[0])
    for at in range(n):
        draft.meet(at, d.stretch_between(n, draft.differences, at + 1, 0))
    for row in draft.equations:
        for at, a in enumerate(row[:-1]):
            if a != 0:
                stretch, rest = draft.sum_of([-number for number in row[:-1]], row[-1], at)
                draft.meet(at, solved(a, stretch))
                if a in (1, -1):
                    draft.meet_rest(at, rest if a == 1 else rests.rest_back(rest))
    draft.pairs = [list(some(rests.settled(*pair))) for pair in draft.pairs]
    draft.cells = [some(rests.settled(*pair)) for pair in draft.cells]
    return draft.look()


def form_of(names, expression):
    """Reckoned with fractions of the names as unit forms."""
    word = expression[0]
    n = len(names)
    if word == "number":
        form = (0,) * n + (expression[1],)
    elif word == "name":
        form = tuple(1 if name == expression[1] else 0 for name in names) + (0,)
    elif word in ("cell", "div", "mod"):
        return None
    else:
        parts = [form_of(names, part) for part in expression[1:]]
        if None in parts:
            return None
        if word == "minus":
            form = tuple(-a for a in parts[0])
        elif word in "+-":
            form = tuple(a + b if word == "+" else a - b for a, b in zip(*parts))
        else:
            alone = [part for part in parts if not any(part[:-1])]
            if not alone:
                return None
            other = parts[1] if parts[0] is alone[0] else parts[0]
            form = tuple(int(Fraction(alone[0][-1]) * a) for a in other)
    return None if any(abs(a) >= GREAT for a in form) else form


def worth(sight, look, expression):
    if look is None:
        return NONE
    names = [name for name, _ in sight[0]]
    word = expression[0]
    if word == "number":
        pair = ((expression[1],) * 2, (expression[1], 0))
    elif word == "name":
        at = names.index(expression[1])
        pair = (look[0][at], look[1][at])
    elif word == "cell":
        row = [name for name, _ in sight[1]].index(expression[1])
        inner = worth(sight, look, expression[2])[0]
        pair = NONE if stretches.stretch_met(inner, (0, sight[1][row][1][1] - 1)) == () else look[4][row]
    else:
        told = [worth(sight, look, part) for part in expression[1:]]
        if NONE in told:
            return NONE
        if word == "minus":
            pair = (stretches.stretch_back(told[0][0]), rests.rest_back(told[0][1]))
        else:
            (x, r), (y, s) = told
            if word == "-":
                y, s = stretches.stretch_back(y), rests.rest_back(s)
            name = {"+": "sum", "-": "sum", "*": "product", "div": "quotient", "mod": "modulo"}[word]
            pair = (getattr(stretches, "stretch_" + name)(x, y), getattr(rests, "rest_" + name)(r, s))
    pair = rests.settled(*pair)
    form = form_of(names, expression)
    if form is not None and pair != NONE:
        told = sorted(a for a in form[:-1] if a != 0)
        if told in ([1], [-1, 1]):
            i = form.index(1, 0, len(names)) + 1
            j = 0 if told == [1] else form.index(-1, 0, len(names)) + 1
            between = d.stretch_between(len(names), look[2], i, j)
            pair = rests.settled(stretches.stretch_met(pair[0], stretches.stretch_sum(between, (form[-1],) * 2)), pair[1])
    if pair == NONE:
        return NONE
    stretch = tuple(None if end is None or abs(end) >= GREAT else end for end in pair[0])
    rest = pair[1]
    return stretch, (rest[0] % GRAIN, GRAIN) if rest[1] == 0 and abs(rest[0]) >= GREAT else rest


def faults(sight, look, expression):
    if look is None:
        return ()
    found = set()
    for part in parts_of(expression):
        if part[0] in ("div", "mod"):
            stretch, rest = worth(sight, look, part[2])
            if stretches.stretch_holds(stretch, 0) and rests.rest_holds(rest, 0):
                found.add("zero")
        if part[0] == "cell" and not stretches.stretch_within(worth(sight, look, part[2])[0], (0, dict(sight[1])[part[1]][1] - 1)):
            found.add("cell")
    return tuple(word for word in ("zero", "cell") if word in found)


def parts_of(expression):
    found = [expression]
    for part in expression[1:]:
        if isinstance(part, tuple):
            found.extend(parts_of(part))
    return found


def set_name(draft, at, kind, pair, form):
    """A name is set to what has this worth and form."""
    stretch, rest = some(pair)
    slot = at + 1
    if kind[0] == "word" and not stretches.stretch_within(stretch, (0, 2 ** kind[1] - 1)):
        stretch, rest = rests.settled(stretches.stretch_wrapped(stretch, kind[1]), rests.rest_wrapped(rest, kind[1]))
        form = None
    elif form is None and stretch[0] is not None and stretch[0] == stretch[1]:
        form = (0,) * draft.n + (stretch[0],)
    told = None if form is None else [a for a in form[:-1] if a != 0]
    if form is None:
        draft.equations = e.equations_forgotten(draft.n, draft.equations, slot)
    else:
        draft.equations = e.equations_set(draft.n, draft.equations, slot, form)
    if told == [] or told == [1]:
        source = form.index(1, 0, draft.n) + 1 if told else 0
        draft.differences = d.differences_set(draft.n, draft.differences, slot, source, form[-1])
    else:
        draft.differences = d.differences_forgotten(draft.n, draft.differences, slot)
    draft.pairs[at] = [stretch, rest]


def effect(sight, look, step):
    look = exchanged(look)
    return None if look is None else exchanged(or_none(effect_on, sight, look, step))


def effect_on(sight, look, step):
    names = [name for name, _ in sight[0]]
    draft = Draft(look)
    if step[0] == "set":
        at = names.index(step[1])
        set_name(draft, at, sight[0][at][1], worth(sight, look, step[2]), form_of(names, step[2]))
        return draft.look()
    if step[0] == "ask":
        at = names.index(step[1])
        set_name(draft, at, sight[0][at][1], rests.settled(step[2:], (0, 1)), None)
        return draft.look()
    if step[0] == "guard":
        return guarded(sight, look, step)
    _, name, index, expression = step
    row = [one for one, _ in sight[1]].index(name)
    size = sight[1][row][1][1]
    look = guarded(sight, look, ("guard", "<=", ("number", 0), index))
    look = guarded(sight, look, ("guard", "<=", index, ("number", size - 1)))
    told = some(worth(sight, look, expression))
    draft = Draft(look)
    if size > 1:
        told = (stretches.stretch_joined(draft.cells[row][0], told[0]), rests.rest_joined(draft.cells[row][1], told[1]))
    draft.cells[row] = told
    return draft.look()


def guarded(sight, look, guard):
    _, sign, left, right = guard
    names = [name for name, _ in sight[0]]
    one, two = worth(sight, look, left), worth(sight, look, right)
    x, y = stretches.stretch_guarded(sign, one[0], two[0])
    r, s = rests.rest_guarded(sign, one[1], two[1])
    draft = Draft(look)
    for expression, pair in ((left, some(rests.settled(x, r))), (right, some(rests.settled(y, s)))):
        if expression[0] == "name":
            at = names.index(expression[1])
            draft.meet(at, pair[0])
            draft.meet_rest(at, pair[1])
    forms = [form_of(names, left), form_of(names, right)]
    if None in forms or sign == "!=":
        return draft.look()
    g = [a - b for a, b in zip(*forms)]
    if sign == "<":
        g[-1] += 1
    at_most(draft, g)
    if sign == "==":
        at_most(draft, [-a for a in g])
        draft.equations = e.equations_guarded(draft.n, draft.equations, tuple(g))
        if draft.equations is None:
            raise Nothing
    return draft.look()


def at_most(draft, g):
    for at, a in enumerate(g[:-1]):
        if a != 0:
            low = draft.sum_of(g[:-1], g[-1], at)[0][0]
            draft.meet(at, solved(a, (None, None if low is None else -low)))
    told = [(at + 1, a) for at, a in enumerate(g[:-1]) if a != 0]
    if sorted(a for _, a in told) in ([1], [-1], [-1, 1]):
        i = sum(slot for slot, a in told if a == 1)
        j = sum(slot for slot, a in told if a == -1)
        draft.guard(i, j, -g[-1])


def give(program, index, look, expression):
    look = exchanged(look)
    return None if look is None else exchanged(or_none(give_on, program, index, look, expression))


def give_on(program, index, look, expression):
    sight, end = looks.sight_of(program, index), looks.end_sight(program)
    form = form_of([name for name, _ in sight[0]], expression)
    told = worth(sight, look, expression)
    draft = Draft(look)
    n = draft.n
    draft.keep(list(range(1, n + 1)) + [None], look[4])
    set_name(draft, n, ("num",), told, None if form is None else form[:-1] + (0, form[-1]))
    draft.keep(list(range(1, len(end[0]))) + [n + 1], look[4][:len(end[1])])
    return draft.look()


def first_look(program, index, called, look, arguments):
    look = exchanged(look)
    return None if look is None else exchanged(or_none(first_on, program, index, called, look, arguments))


def first_on(program, index, called, look, arguments):
    sight, end, inner = looks.sight_of(program, index), looks.end_sight(program), looks.sight_of(program, called)
    names = [name for name, _ in sight[0]]
    shared = len(end[0]) - 1
    fresh = inner[0][shared:]
    told = [(some(worth(sight, look, argument)), form_of(names, argument)) for argument in arguments]
    draft = Draft(look)
    n = draft.n
    draft.keep(list(range(1, n + 1)) + [None] * len(fresh), look[4])
    for at, (_, kind) in enumerate(fresh):
        pair, form = told[at] if at < len(told) else (NOUGHT, (0,) * (n + 1))
        set_name(draft, n + at, kind, pair, None if form is None else form[:-1] + (0,) * len(fresh) + form[-1:])
    cells = list(look[4][:len(end[1])]) + [NOUGHT] * (len(inner[1]) - len(end[1]))
    draft.keep(list(range(1, shared + 1)) + [n + at + 1 for at in range(len(fresh))], cells)
    return draft.look()


def behind(program, index, name, look, end):
    look, end = exchanged(look), exchanged(end)
    return None if look is None or end is None else exchanged(or_none(behind_on, program, index, name, look, end))


def behind_on(program, index, name, look, end):
    sight, last = looks.sight_of(program, index), looks.end_sight(program)
    shared = len(last[0]) - 1
    own = len(sight[0]) - shared
    callers, ended = Draft(look), Draft(end)
    callers.keep([None] * (shared + 1) + [shared + 1 + at for at in range(own)], ())
    ended.keep(list(range(1, shared + 2)) + [None] * own, ())
    both = (sight[0][:shared] + last[0][-1:] + sight[0][shared:], ())
    draft = Draft(some(looks.look_met(both, callers.look(), ended.look())))
    if name is not None:
        at = [one for one, _ in both[0]].index(name)
        form = tuple(1 if k == shared else 0 for k in range(draft.n)) + (0,)
        set_name(draft, at, both[0][at][1], tuple(draft.pairs[shared]), form)
    draft.keep(list(range(1, shared + 1)) + [shared + 2 + at for at in range(own)], end[4] + look[4][len(last[1]):])
    return draft.look()


class Tables:
    """The tables of a program."""

    def __init__(self, program):
        self.program = program
        self.graphs = [graph_of(program, proc) for proc in range(len(program[1]))]
        self.places = [(proc, place) for proc, graph in enumerate(self.graphs) for place in range(graph[0])]
        self.marks = marks_of(program)
        self.called = {proc[0]: at for at, proc in enumerate(program[1])}

    def sight(self, proc, place):
        return looks.end_sight(self.program) if place == self.graphs[proc][0] - 1 else looks.sight_of(self.program, proc)

    def nought(self):
        names, rows = self.sight(0, 0)
        n = len(names)
        units = tuple(tuple(1 if k == at else 0 for k in range(n)) + (0,) for at in range(n))
        return ((0, 0),) * n, ((0, 0),) * n, ((0,) * (n + 1),) * (n + 1), units, (NOUGHT,) * len(rows)

    def coming(self, table, proc, place):
        told = [self.nought()] if (proc, place) == (0, 0) else []
        for at, graph in enumerate(self.graphs):
            for begin, step, to in graph[1]:
                look = table[at][begin]
                if step[0] == "call":
                    called = self.called[step[2]]
                    if (called, 0) == (proc, place):
                        told.append(first_look(self.program, at, called, look, step[3]))
                    if (at, to) == (proc, place):
                        told.append(behind(self.program, at, step[1], look, table[called][-1]))
                elif (at, to) == (proc, place):
                    if step[0] == "give":
                        told.append(give(self.program, at, look, step[1]))
                    else:
                        told.append(effect(self.sight(at, begin), look, step))
        found = None
        for look in told:
            found = looks.look_joined(self.sight(proc, place), found, look)
        return found

    def looked_at(self, table, proc, place):
        came = self.coming(table, proc, place)
        sight = self.sight(proc, place)
        if looks.look_within(sight, came, table[proc][place]):
            return table
        return self.put(table, proc, place, looks.look_widened(sight, self.marks, table[proc][place], came))

    def put(self, table, proc, place, look):
        row = table[proc][:place] + (look,) + table[proc][place + 1:]
        return table[:proc] + (row,) + table[proc + 1:]

    def empty(self):
        return tuple((None,) * graph[0] for graph in self.graphs)

    def analysed(self, order):
        table, changes = self.empty(), 0
        for proc, place in order:
            before, table = table, self.looked_at(table, proc, place)
            changes += before != table
        while True:
            begun = table
            for proc, place in self.places:
                before, table = table, self.looked_at(table, proc, place)
                changes += before != table
            if table == begun:
                return table, changes

    def number(self, table):
        return sum(looks.look_rank(self.sight(*key), self.marks, table[key[0]][key[1]]) for key in self.places)

    def open_place(self, table):
        for proc, place in self.places:
            if not looks.look_within(self.sight(proc, place), self.coming(table, proc, place), table[proc][place]):
                return (proc, place)
        return None

    def narrowed(self, table, order):
        for proc, place in order:
            made = self.put(table, proc, place, self.coming(table, proc, place))
            table = made if self.open_place(made) is None else table
        return table
