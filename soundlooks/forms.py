"""The forms of expressions: whole numbers for the names, and one more, with which they come to their sum."""

from soundlooks.reckoning import is_great


def form_of_number(many, number):
    """The form of a number beside so many names."""
    return (0,) * many + (number,)


def form_of_name(many, at):
    """The form of the name at an index of so many."""
    return (0,) * at + (1,) + (0,) * (many - at)


def opposite_form(form):
    """The form of the opposite."""
    return tuple([-number for number in form])


def form_sum(form, other):
    """The form of a sum."""
    return tuple([one + two for one, two in zip(form, other)])


def has_names(form):
    """Whether a form has a number other than 0 ahead of its last one."""
    return any([number != 0 for number in form[:-1]])


def form_times(form, number):
    """The form of a number times what a form tells."""
    return tuple([number * one for one in form])


def form_together(sign, parts):
    """The form of an expression whose parts have these forms, None for none; None if none is told."""
    if sign in ("div", "mod") or None in parts:
        return None
    if sign == "minus":
        return bounded_form(opposite_form(parts[0]))
    left, right = parts
    if sign == "+":
        return bounded_form(form_sum(left, right))
    if sign == "-":
        return bounded_form(form_sum(left, opposite_form(right)))
    if has_names(left) and has_names(right):
        return None
    if has_names(left):
        return bounded_form(form_times(left, right[-1]))
    return bounded_form(form_times(right, left[-1]))


def bounded_form(form):
    """A form; None if one of its numbers is great."""
    return None if any([is_great(number) for number in form]) else form


def form_in(slots, expression):
    """The form of an expression over a dict of names with their indexes; None if none is told."""
    word = expression[0]
    if word == "number":
        return bounded_form(form_of_number(len(slots), expression[1]))
    if word == "name":
        return form_of_name(len(slots), slots[expression[1]])
    if word == "cell":
        return None
    return form_together(word, [form_in(slots, part) for part in expression[1:]])
