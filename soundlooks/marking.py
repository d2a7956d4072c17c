"""Ascending tuples of marks, and the ends and bounds that go to them."""


def marks_below(marks, number):
    """How many marks are below a number."""
    low, high = 0, len(marks)
    while low < high:
        middle = (low + high) // 2
        if marks[middle] < number:
            low = middle + 1
        else:
            high = middle
    return low


def marks_above(marks, number):
    """How many marks are above a number."""
    return len(marks) - marks_below(marks, number + 1)


def mark_up_to(marks, number):
    """The greatest mark up to a number; None if there is none, or for None."""
    if number is None:
        return None
    many = marks_below(marks, number + 1)
    return marks[many - 1] if many > 0 else None


def mark_from(marks, number):
    """The least mark from a number on; None if there is none, or for None."""
    if number is None:
        return None
    many = marks_below(marks, number)
    return marks[many] if many < len(marks) else None
