"""Tables of a program as they are looked at: what comes to each place, kept for as long as nothing changes it."""

from soundlooks.basics import is_index
from soundlooks.layout import layouts_of
from soundlooks.sights import sight_at, sight_at_end, sight_in
from soundlooks.steps import effect, effect_of_give_step, first_view, view_behind
from soundlooks.trees import marks_of
from soundlooks.views import exchange, is_view, nought_view, view_joined, view_rank, view_widened, view_within


class Flow:
    """Where looks of a program come from: for each place its sources, and which sources each place feeds."""

    def __init__(self, program):
        self.program = program
        self.layouts = layouts_of(program)
        self.marks = marks_of(program)
        self.indexes = {proc[0]: index for index, proc in enumerate(program[1])}
        self.places = [(proc, place) for proc, layout in enumerate(self.layouts) for place in range(layout.end + 1)]
        # Each source is a tuple (WORD, PROC, PLACE, STEP), PROC and PLACE being where the step stands.
        self.sources = {key: [] for key in self.places}
        self.fed = {key: [] for key in self.places}
        for proc, place in self.places:
            for step, behind in self.layouts[proc].leaving[place]:
                self.add_edge(proc, place, step, behind)

    def add_edge(self, proc, place, step, behind):
        """Adds the sources that an edge brings along."""
        if step[0] == "call":
            called = self.indexes[step[2]]
            self.add_source((called, 0), ("begin", proc, place, step), [(proc, place)])
            end = (called, self.layouts[called].end)
            self.add_source((proc, behind), ("behind", proc, place, step), [(proc, place), end])
        else:
            self.add_source((proc, behind), ("edge", proc, place, step), [(proc, place)])

    def add_source(self, key, source, feeding):
        """Adds a source of a place, and that some places feed it."""
        for fed_by in feeding:
            self.fed[fed_by].append((key, len(self.sources[key])))
        self.sources[key].append(source)

    def sight_of_place(self, key):
        """The sight at a place."""
        return sight_at(self.program, self.layouts[key[0]], key[0], key[1])

    def is_place(self, value):
        """Whether a value is a pair of a procedure and a place."""
        if not isinstance(value, tuple) or len(value) != 2 or not is_index(value[0], len(self.layouts)):
            return False
        return is_index(value[1], self.layouts[value[0]].end + 1)

    def has_form(self, value):
        """Whether a value is as a table is, whatever its looks are."""
        if not isinstance(value, tuple) or len(value) != len(self.layouts):
            return False
        return all([isinstance(row, tuple) and len(row) == layout.end + 1 for row, layout in zip(value, self.layouts)])

    def wrong_look_in(self, table):
        """The first place whose look in what has a table's form is none; None if there is none."""
        for key in self.places:
            if not is_view(self.sight_of_place(key), table[key[0]][key[1]]):
                return key
        return None

    def is_table(self, value):
        """Whether a value is a table."""
        return self.has_form(value) and self.wrong_look_in(value) is None


class Board:
    """A table that is looked at, place by place."""

    def __init__(self, flow, table):
        self.flow = flow
        self.looks = {(proc, place): look for proc, row in enumerate(table) for place, look in enumerate(row)}
        # What has been found so far, for the looks as they are now.
        self.ready = {}
        self.brought = {}
        self.calm = {}

    def table(self):
        """The table as it stands."""
        return tuple([tuple([self.looks[proc, place] for place in range(layout.end + 1)])
                      for proc, layout in enumerate(self.flow.layouts)])

    def put_look(self, key, look):
        """Puts a look in the place of one; all that hangs on it is to be found anew."""
        self.looks[key] = look
        self.ready[key] = None
        self.calm[key] = False
        for target, index in self.flow.fed[key]:
            self.brought[target, index] = None
            self.calm[target] = False

    def exchanged_at(self, key):
        """The look of a place, exchanged."""
        if self.ready.get(key) is None:
            # In a tuple, so that a look that is None counts as found.
            self.ready[key] = (exchange(self.looks[key]),)
        return self.ready[key][0]

    def coming(self, key):
        """What comes to a place."""
        found = nought_view(self.flow.sight_of_place(key)) if key == (0, 0) else None
        for index, source in enumerate(self.flow.sources[key]):
            if self.brought.get((key, index)) is None:
                self.brought[key, index] = (self.bring(source),)
            found = view_joined(found, self.brought[key, index][0])
        return found

    def bring(self, source):
        """What a source brings to its place."""
        word, proc, place, step = source
        program = self.flow.program
        view = self.exchanged_at((proc, place))
        if word == "begin":
            return first_view(program, proc, self.flow.indexes[step[2]], view, step[3])
        if word == "behind":
            called = self.flow.indexes[step[2]]
            end = self.exchanged_at((called, self.flow.layouts[called].end))
            return view_behind(program, proc, step[1], view, end)
        if step[0] == "give":
            return effect_of_give_step(sight_in(program, proc), sight_at_end(program), view, step[1])
        return effect(sight_in(program, proc), view, step)

    def holds_coming(self, key):
        """Whether what comes to a place lies within its look."""
        return view_within(self.coming(key), self.looks[key])

    def look_at(self, key):
        """Looks at a place; whether this changes its look."""
        # Behind a look at a place nothing changes there until something changes what comes to it.
        if self.calm.get(key, False):
            return False
        came = self.coming(key)
        before = self.looks[key]
        is_changed = not view_within(came, before)
        if is_changed:
            self.put_look(key, view_widened(self.flow.marks, before, came))
        self.calm[key] = not is_changed
        return is_changed

    def look_in_order(self, order):
        """Looks at places, one behind the other; how many looks change something."""
        return sum([1 if self.look_at(key) else 0 for key in order])

    def look_until_calm(self):
        """Looks at all places in turn until nothing changes; how many looks change something."""
        many = 0
        changed = self.look_in_order(self.flow.places)
        while changed > 0:
            many += changed
            changed = self.look_in_order(self.flow.places)
        return many

    def open_key(self):
        """The first place to which something comes that does not lie within its look; None."""
        for key in self.flow.places:
            if not self.holds_coming(key):
                return key
        return None

    def narrow(self, key):
        """Narrows a closed table at a place."""
        before = self.looks[key]
        came = self.coming(key)
        if came == before:
            return
        self.put_look(key, came)
        # To all other places there comes what came ahead.
        hanging = [key] + [target for target, _ in self.flow.fed[key]]
        if not all([self.holds_coming(target) for target in hanging]):
            self.put_look(key, before)

    def narrow_everywhere(self):
        """Narrows a closed table at all places, one behind the other."""
        for key in self.flow.places:
            self.narrow(key)

    def number(self):
        """The sum of the ranks of all looks."""
        flow = self.flow
        return sum([view_rank(flow.marks, flow.sight_of_place(key), self.looks[key]) for key in flow.places])


def empty_rows(flow):
    """The table of None everywhere."""
    return tuple([(None,) * (layout.end + 1) for layout in flow.layouts])


def analysed_by(flow, order):
    """The board of a program analysed by an order; and how many looks changed something."""
    board = Board(flow, empty_rows(flow))
    changed = board.look_in_order(order)
    return board, changed + board.look_until_calm()


def best_rows(flow):
    """The table of a program analysed by no order, narrowed at all places once."""
    board, _ = analysed_by(flow, ())
    board.narrow_everywhere()
    return board.table()
