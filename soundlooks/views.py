"""What can be done with looks that are taken for granted."""

from soundlooks.gaps import free_gaps, gaps_guarded, gaps_hold, gaps_joined, gaps_met, gaps_rank, gaps_widened
from soundlooks.gaps import gaps_within, is_gaps, span_between
from soundlooks.lines import is_lines, lines_hold, lines_joined, lines_met, lines_rank, lines_within
from soundlooks.residues import ANY_REST, is_residue, residue_back, residue_holds, residue_joined, residue_met
from soundlooks.residues import residue_product, residue_rank, residue_sum, residue_within, settle
from soundlooks.spans import FREE, is_span, opposite, span_holds, span_joined, span_met, span_rank, span_solved
from soundlooks.spans import span_sum, span_times, span_widened, span_within

ROUNDS = 2
NOUGHT_PAIR = ((0, 0), (0, 0))
FREE_PAIR = ((None, None), (0, 1))


def is_view(sight, value):
    """Whether a value is a look of a sight."""
    if value is None:
        return True
    if not isinstance(value, tuple) or len(value) != 5:
        return False
    spans, residues, gaps, lines, cells = value
    many = len(sight[0])
    if gaps is None or lines is None or not is_gaps(many, gaps) or not is_lines(many, lines):
        return False
    return are_told(many, is_span, spans) and are_told(many, is_residue, residues) and are_cells(len(sight[1]), cells)


def are_told(many, is_one, value):
    """Whether a value is a tuple of so many stretches, or rests, other than ()."""
    return isinstance(value, tuple) and len(value) == many and all([is_one(one) and one != () for one in value])


def are_cells(many, value):
    """Whether a value is a tuple of so many pairs of a stretch and a rest, neither ()."""
    return isinstance(value, tuple) and len(value) == many and all([is_pair(pair) for pair in value])


def is_pair(value):
    """Whether a value is a pair of a stretch and a rest, neither ()."""
    return isinstance(value, tuple) and len(value) == 2 and are_told(1, is_span, value[:1]) and is_told_rest(value[1])


def is_told_rest(value):
    """Whether a value is a rest other than ()."""
    return is_residue(value) and value != ()


def free_view(sight):
    """The look that holds all values."""
    many = len(sight[0])
    return (FREE,) * many, (ANY_REST,) * many, free_gaps(many), (), (FREE_PAIR,) * len(sight[1])


def nought_view(sight):
    """The look of 0 alone."""
    many = len(sight[0])
    told = (0,) * (many + 1)
    lines = tuple([told[:at] + (1,) + told[at + 1:] for at in range(many)])
    return ((0, 0),) * many, ((0, 0),) * many, (told,) * (many + 1), lines, (NOUGHT_PAIR,) * len(sight[1])


def pair_holds(pair, number):
    """Whether a stretch and a rest both hold a number."""
    return span_holds(pair[0], number) and residue_holds(pair[1], number)


def view_holds(view, numbers, cells):
    """Whether a look holds values."""
    if view is None:
        return False
    spans, residues, gaps, lines, pairs = view
    if not all([pair_holds(pair, number) for pair, number in zip(list(zip(spans, residues)), numbers)]):
        return False
    if not gaps_hold(gaps, numbers) or not lines_hold(lines, numbers):
        return False
    return all([pair_holds(pair, number) for pair, row in zip(pairs, cells) for number in row])


def pairs_of(view):
    """The pairs of a stretch and a rest of all names, then of all rows."""
    return list(zip(view[0], view[1])) + list(view[4])


def view_of(pairs, gaps, lines):
    """The look with these pairs of its names, then of its rows; None if one is none."""
    if gaps is None or lines is None or any([() in pair for pair in pairs]):
        return None
    many = len(gaps) - 1
    names = pairs[:many]
    return tuple([pair[0] for pair in names]), tuple([pair[1] for pair in names]), gaps, lines, tuple(pairs[many:])


def view_within(view, other):
    """Whether a look lies within another one."""
    if view is None or other is None:
        return view is None
    for one, two in zip(pairs_of(view), pairs_of(other)):
        if not span_within(one[0], two[0]) or not residue_within(one[1], two[1]):
            return False
    return lines_within(view[3], other[3]) and gaps_within(view[2], other[2])


def view_joined(view, other):
    """Two looks joined, each part by itself."""
    if view is None or other is None:
        return other if view is None else view
    pairs = [(span_joined(one[0], two[0]), residue_joined(one[1], two[1]))
             for one, two in zip(pairs_of(view), pairs_of(other))]
    return view_of(pairs, gaps_joined(view[2], other[2]), lines_joined(view[3], other[3]))


def view_met(view, other):
    """Two looks met, each part by itself."""
    if view is None or other is None:
        return None
    pairs = [(span_met(one[0], two[0]), residue_met(one[1], two[1]))
             for one, two in zip(pairs_of(view), pairs_of(other))]
    return view_of(pairs, gaps_met(view[2], other[2]), lines_met(len(view[0]), view[3], other[3]))


def view_widened(marks, view, other):
    """A look widened by another one, each part by itself."""
    if view is None or other is None:
        return other if view is None else view
    pairs = [(span_widened(marks, one[0], two[0]), residue_joined(one[1], two[1]))
             for one, two in zip(pairs_of(view), pairs_of(other))]
    return view_of(pairs, gaps_widened(marks, view[2], other[2]), lines_joined(view[3], other[3]))


def view_rank(marks, sight, view):
    """The rank of a look of a sight for marks."""
    names, rows = len(sight[0]), len(sight[1])
    size = len(marks)
    if view is None:
        return (names + rows) * (2 * size + 15) + names * (names + 1) * (size + 2) + names + 3
    rank = sum([span_rank(marks, pair[0]) + residue_rank(pair[1]) for pair in pairs_of(view)])
    return rank + gaps_rank(marks, names, view[2]) + lines_rank(names, view[3])


def exchange(view):
    """A look exchanged, in two rounds."""
    for _ in range(ROUNDS):
        before = view
        view = None if before is None else exchanged_once(before)
        # A round that changes nothing would change nothing again.
        if view == before:
            return view
    return view


def exchanged_once(view):
    """A look behind one round of exchange."""
    names = [settle(span, residue) for span, residue in zip(view[0], view[1])]
    if ((), ()) in names:
        return None
    gaps = gaps_guarded(view[2], bounds_of(names))
    if gaps is None:
        return None
    spans = [span_met(pair[0], span_between(gaps, at + 1, 0)) for at, pair in enumerate(names)]
    residues = [pair[1] for pair in names]
    for row in view[3]:
        if not exchange_row(row, spans, residues):
            return None
    pairs = list(zip(spans, residues)) + list(view[4])
    return view_of([settle(span, residue) for span, residue in pairs], gaps, view[3])


def bounds_of(names):
    """The bounds beside 0 that the stretches of names tell, as triples of two indexes and a bound."""
    bounds = []
    for at, (span, _) in enumerate(names):
        bounds.append((at + 1, 0, span[1]))
        bounds.append((0, at + 1, opposite(span[0])))
    return bounds


def exchange_row(row, spans, residues):
    """Meets the stretches and rests of the names of an equation; False if one holds nothing."""
    told = told_names(row)
    for at, number in told:
        others = [(other, -by) for other, by in told if other != at]
        spans[at] = span_met(spans[at], span_solved(number, span_of_sum(spans, others, row[-1])))
        if number in (1, -1):
            residue = residue_of_sum(residues, others, row[-1])
            residues[at] = residue_met(residues[at], residue if number == 1 else residue_back(residue))
        if spans[at] == () or residues[at] == ():
            return False
    return True


def told_names(form):
    """The pairs of an index and a number other than 0 of the names of a form or a row."""
    return [(at, number) for at, number in enumerate(form[:-1]) if number != 0]


def span_of_sum(spans, told, number):
    """The stretch of a number and names times their numbers."""
    span = (number, number)
    for at, by in told:
        span = span_sum(span, span_times(by, spans[at]))
    return span


def residue_of_sum(residues, told, number):
    """The rest of a number and names times their numbers."""
    residue = (number, 0)
    for at, by in told:
        residue = residue_sum(residue, residue_product((by, 0), residues[at]))
    return residue
