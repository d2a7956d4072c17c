"""What a look tells of expressions: in which stretch and rest they lie, and which faults they may bear."""

from soundlooks.forms import bounded_form, form_of_name, form_of_number, form_together
from soundlooks.gaps import span_between
from soundlooks.reckoning import is_great
from soundlooks.residues import GRAIN, residue_back, residue_modulo, residue_of, residue_product, residue_quotient
from soundlooks.residues import residue_sum, settle
from soundlooks.spans import span_back, span_met, span_modulo, span_product, span_quotient, span_sum, span_within
from soundlooks.views import pair_holds, told_names

NONE = ((), ())


def index_of(pairs):
    """The dict of some names with their indexes."""
    return {pair[0]: at for at, pair in enumerate(pairs)}


class Outlook:
    """What a look, other than None, tells of the expressions of its sight; its closing is told beside it."""

    def __init__(self, sight, view, closed):
        self.slots = index_of(sight[0])
        self.rows = index_of(sight[1])
        self.kinds = dict(sight[1])
        self.spans = view[0]
        self.residues = view[1]
        self.closed = closed
        self.cells = view[4]

    def worth(self, expression):
        """The pair of a stretch and a rest in which an expression lies."""
        pair, _ = self.worth_and_form(expression)
        return pair

    def worth_and_form(self, expression):
        """The worth of an expression, and its form, None if none is told."""
        word = expression[0]
        many = len(self.slots)
        if word == "number":
            number = expression[1]
            pair, form = ((number, number), (number, 0)), bounded_form(form_of_number(many, number))
        elif word == "name":
            at = self.slots[expression[1]]
            pair, form = settle(self.spans[at], self.residues[at]), form_of_name(many, at)
        elif word == "cell":
            pair, form = self.worth_of_cell(expression), None
        else:
            parts = [self.worth_and_form(part) for part in expression[1:]]
            pair = worth_together(word, [part[0] for part in parts])
            form = form_together(word, [part[1] for part in parts])
        return without_great_ends(self.met_with_differences(pair, form)), form

    def worth_of_cell(self, expression):
        """The worth of a cell, by its row's."""
        _, name, at = expression
        span, _ = self.worth(at)
        if span_met(span, self.indexes_of(name)) == ():
            return NONE
        told = self.cells[self.rows[name]]
        return settle(told[0], told[1])

    def indexes_of(self, name):
        """The stretch of the indexes of a row."""
        return 0, self.kinds[name][1] - 1

    def met_with_differences(self, pair, form):
        """A worth met with what the differences tell of a form, if they tell anything."""
        ends = None if form is None else indexes_of_difference(form)
        if ends is None or pair == NONE:
            return pair
        number = form[-1]
        between = span_sum(span_between(self.closed, ends[0], ends[1]), (number, number))
        return settle(span_met(pair[0], between), pair[1])

    def faults(self, expression):
        """The faults that an expression may bear, "zero" ahead of "cell"."""
        found = self.faults_found(expression)
        return tuple([word for word in ("zero", "cell") if word in found])

    def faults_found(self, expression):
        """The list of all faults that an expression and its parts may bear."""
        word = expression[0]
        if word in ("number", "name"):
            return []
        if word == "cell":
            span, _ = self.worth(expression[2])
            own = [] if span_within(span, self.indexes_of(expression[1])) else ["cell"]
            return own + self.faults_found(expression[2])
        found = []
        for part in expression[1:]:
            found.extend(self.faults_found(part))
        if word in ("div", "mod") and pair_holds(self.worth(expression[2]), 0):
            found.append("zero")
        return found


def indexes_of_difference(form):
    """The indexes i and j of a form that is v_i - v_j and a number; None for another one, and one without names."""
    told = told_names(form)
    if len(told) == 1 and told[0][1] == 1:
        return told[0][0] + 1, 0
    if len(told) == 2 and told[0][1] * told[1][1] == -1:
        first, second = told if told[0][1] == 1 else (told[1], told[0])
        return first[0] + 1, second[0] + 1
    return None


def worth_together(sign, worths):
    """The worth of an expression whose parts have these worths."""
    span, residue = worths[0]
    if sign == "minus":
        return settle(span_back(span), residue_back(residue))
    other, beside = worths[1]
    if sign == "+":
        return settle(span_sum(span, other), residue_sum(residue, beside))
    if sign == "-":
        return settle(span_sum(span, span_back(other)), residue_sum(residue, residue_back(beside)))
    if sign == "*":
        return settle(span_product(span, other), residue_product(residue, beside))
    if sign == "div":
        return settle(span_quotient(span, other), residue_quotient(residue, beside))
    return settle(span_modulo(span, other), residue_modulo(residue, beside))


def without_great_ends(pair):
    """A worth that tells nothing of great numbers but what they leave by the grain."""
    span, residue = pair
    if span == ():
        return pair
    low, high = [None if end is None or is_great(end) else end for end in span]
    if residue[1] == 0 and is_great(residue[0]):
        residue = residue_of(residue[0], GRAIN)
    return (low, high), residue
