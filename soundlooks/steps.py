"""The effects of steps on looks that are exchanged; what they return is exchanged, too."""

from soundlooks.forms import form_of_name, form_of_number, form_sum, opposite_form
from soundlooks.gaps import closed_forgotten, closed_kept, closed_set, gaps_guarded
from soundlooks.lines import lines_forgotten, lines_guarded, lines_kept, lines_set
from soundlooks.residues import ANY_REST, residue_guarded, residue_joined, residue_met, residue_wrapped, settle
from soundlooks.sights import GIVEN, number_pairs, own_pairs, row_pairs, sight_in
from soundlooks.spans import FREE, opposite, span_guarded, span_joined, span_met, span_solved, span_within, span_wrapped
from soundlooks.views import NOUGHT_PAIR, exchange, span_of_sum, told_names, view_met
from soundlooks.worths import NONE, Outlook, index_of


def replaced(told, at, one):
    """A tuple with another element at an index."""
    return told[:at] + (one,) + told[at + 1:]


def effect(sight, view, step):
    """The effect of a set, ask, put or guard."""
    if view is None:
        return None
    if step[0] == "set":
        return exchange(effect_of_set(sight, view, step[1], step[2]))
    if step[0] == "ask":
        at = index_of(sight[0])[step[1]]
        return exchange(with_worth(view, at, sight[0][at][1], settle(step[2:], ANY_REST), None))
    if step[0] == "put":
        return exchange(effect_of_put(sight, view, step))
    return exchange(effect_of_guard(sight, view, step))


def outlook_on(sight, view):
    """What a look with closed differences tells of expressions."""
    return Outlook(sight, view, view[2])


def effect_of_set(sight, view, name, expression):
    """The effect of a set, not exchanged."""
    at = index_of(sight[0])[name]
    pair, form = outlook_on(sight, view).worth_and_form(expression)
    return with_worth(view, at, sight[0][at][1], pair, form)


def with_worth(view, at, kind, pair, form):
    """The look in which the name at an index, of this kind, has taken what has this worth and form."""
    span, residue = pair
    if span == ():
        return None
    if kind[0] == "word" and not span_within(span, (0, (1 << kind[1]) - 1)):
        span, residue = settle(span_wrapped(span, kind[1]), residue_wrapped(residue, kind[1]))
        form = None
    elif form is None and span[0] is not None and span[0] == span[1]:
        form = form_of_number(len(view[0]), span[0])
    gaps, lines = with_form(view, at + 1, form)
    return replaced(view[0], at, span), replaced(view[1], at, residue), gaps, lines, view[4]


def with_form(view, slot, form):
    """The differences and equations in which a slot has been set to a form, or forgotten for None."""
    many = len(view[0])
    if form is None:
        return closed_forgotten(view[2], slot), lines_forgotten(many, view[3], slot)
    lines = lines_set(many, view[3], slot, form)
    told = told_names(form)
    if told == []:
        return closed_set(view[2], slot, 0, form[-1]), lines
    if len(told) == 1 and told[0][1] == 1:
        return closed_set(view[2], slot, told[0][0] + 1, form[-1]), lines
    return closed_forgotten(view[2], slot), lines


def effect_of_put(sight, view, put):
    """The effect of a put, not exchanged."""
    _, name, index, expression = put
    at = index_of(sight[1])[name]
    size = sight[1][at][1][1]
    for guard in (("guard", "<=", ("number", 0), index), ("guard", "<=", index, ("number", size - 1))):
        if view is not None:
            view = effect_of_guard(sight, view, guard)
    if view is None:
        return None
    span, residue = outlook_on(sight, view).worth(expression)
    if span == ():
        return None
    told = view[4][at]
    if size > 1:
        span, residue = span_joined(told[0], span), residue_joined(told[1], residue)
    return view[:4] + (replaced(view[4], at, (span, residue)),)


def effect_of_guard(sight, view, guard):
    """The effect of a guard, not exchanged."""
    _, sign, left, right = guard
    outlook = outlook_on(sight, view)
    (one, one_form), (two, two_form) = outlook.worth_and_form(left), outlook.worth_and_form(right)
    spans = span_guarded(sign, one[0], two[0])
    residues = residue_guarded(sign, one[1], two[1])
    one, two = settle(spans[0], residues[0]), settle(spans[1], residues[1])
    if NONE in (one, two):
        return None
    view = met_with_worth(sight, view, left, one)
    view = met_with_worth(sight, view, right, two)
    if one_form is None or two_form is None or sign == "!=":
        return view
    return guarded_by_form(view, sign, form_sum(one_form, opposite_form(two_form)))


def met_with_worth(sight, view, expression, pair):
    """The look in which the pair of an expression, if that is a name, has been met with this one."""
    if view is None or expression[0] != "name":
        return view
    at = index_of(sight[0])[expression[1]]
    span, residue = span_met(view[0][at], pair[0]), residue_met(view[1][at], pair[1])
    if span == () or residue == ():
        return None
    return (replaced(view[0], at, span), replaced(view[1], at, residue)) + view[2:]


def guarded_by_form(view, sign, form):
    """The look in which the form of a left part less that of a right one is as "<", "<=" or "==" tells."""
    if sign == "<":
        return at_most_nought(view, form[:-1] + (form[-1] + 1,))
    view = at_most_nought(view, form)
    if sign == "<=":
        return view
    view = at_most_nought(view, opposite_form(form))
    if view is None:
        return None
    lines = lines_guarded(len(view[0]), view[3], form)
    return None if lines is None else view[:3] + (lines, view[4])


def at_most_nought(view, form):
    """The look in which a form is at most 0; None let."""
    if view is None:
        return None
    spans, residues, gaps, lines, cells = view
    told = told_names(form)
    for at, number in told:
        others = span_of_sum(spans, [pair for pair in told if pair[0] != at], form[-1])
        met = span_met(spans[at], span_solved(number, (None, opposite(others[0]))))
        if met == ():
            return None
        spans = replaced(spans, at, met)
    ends = ends_at_most(told)
    if ends is not None:
        gaps = gaps_guarded(gaps, [ends + (-form[-1],)])
    return None if gaps is None else (spans, residues, gaps, lines, cells)


def ends_at_most(told):
    """The indexes whose difference the names of a form are, told with their numbers; None if they are none."""
    if len(told) == 1 and told[0][1] in (1, -1):
        at, number = told[0]
        return (at + 1, 0) if number == 1 else (0, at + 1)
    if len(told) == 2 and told[0][1] * told[1][1] == -1:
        first, second = told if told[0][1] == 1 else (told[1], told[0])
        return first[0] + 1, second[0] + 1
    return None


def kept_at(view, slots, cells):
    """A look with closed differences kept at a tuple of slots, None for fresh names; with these pairs of rows."""
    spans, residues, gaps, lines, _ = view
    return (
        tuple([FREE if slot is None else spans[slot - 1] for slot in slots]),
        tuple([ANY_REST if slot is None else residues[slot - 1] for slot in slots]),
        closed_kept(gaps, slots),
        lines_kept(len(spans), lines, slots),
        cells,
    )


def slots_from(first, many):
    """The tuple of so many slots from one on."""
    return tuple([first + at for at in range(many)])


def effect_of_give_step(sight, end_sight, view, expression):
    """The effect of a give, with the look for the end's sight."""
    if view is None:
        return None
    many = len(view[0])
    pair, form = outlook_on(sight, view).worth_and_form(expression)
    fresh = kept_at(view, slots_from(1, many) + (None,), view[4])
    given = with_worth(fresh, many, GIVEN[1], pair, wider_form(form, 1))
    if given is None:
        return None
    slots = slots_from(1, len(end_sight[0]) - 1) + (many + 1,)
    return exchange(kept_at(given, slots, view[4][:len(end_sight[1])]))


def wider_form(form, more):
    """A form beside so many fresh names behind all others; None let."""
    return None if form is None else form[:-1] + (0,) * more + form[-1:]


def first_view(program, proc, called, view, arguments):
    """The first look of a procedure that is called with arguments from a look of a procedure."""
    if view is None:
        return None
    outlook = outlook_on(sight_in(program, proc), view)
    told = [outlook.worth_and_form(argument) for argument in arguments]
    many = len(view[0])
    kinds = [pair[1] for pair in number_pairs(own_pairs(program, called))]
    # What is told of the params comes first, then the locals, each 0.
    told.extend([(NOUGHT_PAIR, form_of_number(many, 0)) for _ in kinds[len(told):]])
    begun = kept_at(view, slots_from(1, many) + (None,) * len(kinds), ())
    for at, (pair, form) in enumerate(told):
        if begun is not None:
            begun = with_worth(begun, many + at, kinds[at], pair, wider_form(form, len(kinds)))
    if begun is None:
        return None
    shared_numbers, shared_rows = len(number_pairs(program[0])), len(row_pairs(program[0]))
    cells = view[4][:shared_rows] + (NOUGHT_PAIR,) * len(row_pairs(own_pairs(program, called)))
    return exchange(kept_at(begun, slots_from(1, shared_numbers) + slots_from(many + 1, len(kinds)), cells))


def view_behind(program, proc, name, view, end):
    """The look behind a call to a name, or None, from the look there and one at the END of the called procedure."""
    if view is None or end is None:
        return None
    names, _ = sight_in(program, proc)
    many = len(number_pairs(program[0]))
    own = len(names) - many
    # The given number stands between the globals and the own names.
    callers = kept_at(view, (None,) * (many + 1) + slots_from(many + 1, own), ())
    ended = kept_at(end, slots_from(1, many + 1) + (None,) * own, ())
    both = view_met(callers, ended)
    if both is not None and name is not None:
        at = index_of(names)[name]
        given = (both[0][many], both[1][many])
        form = form_of_name(many + 1 + own, many)
        both = with_worth(both, at if at < many else at + 1, names[at][1], given, form)
    if both is None:
        return None
    cells = end[4] + view[4][len(row_pairs(program[0])):]
    return exchange(kept_at(both, slots_from(1, many) + slots_from(many + 2, own), cells))
