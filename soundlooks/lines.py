"""What can be done with equations that are taken for granted."""

from math import gcd, lcm

from soundlooks.basics import is_whole


def is_row_of(many, value):
    """Whether a value is a row of equations of so many slots."""
    return isinstance(value, tuple) and len(value) == many + 1 and all([is_whole(number) for number in value])


def is_lines(many, value):
    """Whether a value is equations of so many slots."""
    if value is None:
        return True
    if not isinstance(value, tuple) or not all([is_row_of(many, row) for row in value]):
        return False
    leads = [lead_of(row) for row in value]
    if None in leads or many in leads or leads != sorted(set(leads)):
        return False
    for row, lead in zip(value, leads):
        if row[lead] < 0 or divisor_of(row) != 1 or any([other[lead] != 0 for other in value if other != row]):
            return False
    return True


def lead_of(row):
    """The index of the first number other than 0; None if there is none."""
    for at, number in enumerate(row):
        if number != 0:
            return at
    return None


def divisor_of(numbers):
    """The greatest common divisor of some numbers; 0 if all are 0."""
    divisor = 0
    for number in numbers:
        divisor = gcd(divisor, number)
    return divisor


def multiple_of(numbers):
    """The least common multiple of some numbers above 0."""
    multiple = 1
    for number in numbers:
        multiple = lcm(multiple, number)
    return multiple


def plain_row(row):
    """A row, with a number other than 0, without a common divisor and with a leading number above 0."""
    divisor = divisor_of(row)
    if row[lead_of(row)] < 0:
        divisor = -divisor
    return tuple([number // divisor for number in row])


def cleared(row, by, at):
    """A row times a number above 0, less a multiple of one that leads at an index, so that it has 0 there."""
    if row[at] == 0:
        return row
    return tuple([number * by[at] - row[at] * other for number, other in zip(row, by)])


def echelon(rows):
    """The rows that tell the same as some rows do, each other one having 0 where one leads, by where they lead."""
    found = {}
    for row in rows:
        for lead, by in found.items():
            row = cleared(row, by, lead)
        lead = lead_of(row)
        if lead is not None:
            row = plain_row(row)
            found = {at: plain_row(cleared(other, row, lead)) for at, other in found.items()}
            found[lead] = row
    return [found[lead] for lead in sorted(list(found))]


def lines_from(many, rows):
    """The equations with just the points that keep rows of so many slots."""
    told = echelon(rows)
    if told != [] and lead_of(told[-1]) == many:
        return None
    return tuple(told)


def left_of(lines, row):
    """What is left of a row, times some number above 0, when equations have cleared it; and that number."""
    times = 1
    for by in lines:
        lead = lead_of(by)
        if row[lead] != 0:
            times = times * by[lead]
            row = cleared(row, by, lead)
    return row, times


def lines_keep(lines, row):
    """Whether all points of equations keep a row."""
    if lines is None:
        return True
    left, _ = left_of(lines, row)
    return lead_of(left) is None


def lines_hold(lines, numbers):
    """Whether values keep all rows of equations."""
    if lines is None:
        return False
    for row in lines:
        if sum([number * by for number, by in zip(numbers, row)]) != row[-1]:
            return False
    return True


def lines_within(lines, other):
    """Whether each point of equations is one of others."""
    if lines is None or other is None:
        return lines is None
    return all([lines_keep(lines, row) for row in other])


def lines_joined(lines, other):
    """The least equations with all points of both."""
    if lines is None or other is None:
        return other if lines is None else lines
    # The rows that are sums of either's rows: each row of the one beside itself, each of the other one beside 0.
    doubled = [row + row for row in lines] + [row + (0,) * len(row) for row in other]
    both = []
    for row in echelon(doubled):
        size = len(row) // 2
        if lead_of(row) >= size:
            both.append(row[size:])
    return tuple(both)


def lines_met(many, lines, other):
    """The equations with just the points of both."""
    if lines is None or other is None:
        return None
    return lines_from(many, lines + other)


def lines_guarded(many, lines, form):
    """The equations with just the points at which a form is 0."""
    if lines is None:
        return None
    return lines_from(many, lines + (row_of_form(form),))


def row_of_form(form):
    """The row that is kept where a form is 0."""
    return form[:-1] + (-form[-1],)


def lines_kept(many, lines, slots):
    """Equations of so many slots kept at a tuple of slots, None standing for fresh ones."""
    if lines is None:
        return None
    # With the slots that go ahead of all others, the rows that do not lead there are those without them.
    gone = [slot - 1 for slot in range(1, many + 1) if slot not in slots]
    rows = echelon([tuple([row[at] for at in gone]) + row for row in lines])
    stay = [row[len(gone):] for row in rows if lead_of(row) >= len(gone)]
    kept = [tuple([0 if slot is None else row[slot - 1] for slot in slots]) + (row[-1],) for row in stay]
    return tuple(echelon(kept))


def lines_forgotten(many, lines, slot):
    """Equations with a slot forgotten."""
    return lines_kept(many, lines, tuple([None if at == slot else at for at in range(1, many + 1)]))


def lines_set(many, lines, slot, form):
    """Equations with a slot set to a form."""
    if lines is None:
        return None
    # A further slot is the form; then it stands in the place of the one that is set.
    further = tuple([-number for number in form[:-1]]) + (1, form[-1])
    rows = [row[:-1] + (0, row[-1]) for row in lines] + [further]
    slots = tuple([many + 1 if at == slot else at for at in range(1, many + 1)])
    return lines_kept(many + 1, lines_from(many + 1, rows), slots)


def lines_rank(many, lines):
    """The rank of equations of so many slots."""
    return many + 1 if lines is None else len(lines)


def fraction(number, divisor):
    """The pair of a fraction by a number above 0, without a common divisor."""
    common = gcd(number, divisor)
    return number // common, divisor // common


def form_at(lines, form):
    """The fraction that a form is at all points of equations; None if it is not one alone."""
    if lines is None:
        return None
    left, times = left_of(lines, row_of_form(form))
    if lead_of(left[:-1]) is not None:
        return None
    return fraction(-left[-1], times)


def point_of(many, lines, free):
    """The point of equations that has these whole numbers, in a dict, or 0 at the slots where no row leads."""
    below = multiple_of([row[lead_of(row)] for row in lines])
    point = [free.get(at, 0) * below for at in range(many)]
    for row in lines:
        lead = lead_of(row)
        told = row[-1] - sum([row[at] * number for at, number in free.items()])
        point[lead] = told * (below // row[lead])
    point.append(below)
    common = divisor_of(point)
    return tuple([number // common for number in point])


def point_beyond(many, lines, other):
    """Any point of equations that is none of others; None if there is none."""
    if lines is None:
        return None
    if other is None:
        return point_of(many, lines, {})
    for row in other:
        left, _ = left_of(lines, row)
        if left[-1] != 0:
            return point_of(many, lines, {})
        if lead_of(left) is not None:
            return point_of(many, lines, {lead_of(left): 1})
    return None


def lines_of_gaps(closed):
    """The equations of the fixed differences of closed differences."""
    if closed is None:
        return None
    rows = []
    size = len(closed)
    for i in range(size):
        for j in range(i):
            bound = closed[i][j]
            if bound is not None and closed[j][i] == -bound:
                row = [0] * (size + 1)
                row[i] = 1
                row[j] = -1
                rows.append(tuple(row[1:size]) + (bound,))
    return tuple(echelon(rows))


def gaps_of_lines(many, lines):
    """The differences that are one number at all points of equations; None if one is no whole number."""
    if lines is None:
        return None
    rows = [[0 if i == j else None for j in range(many + 1)] for i in range(many + 1)]
    for i in range(many + 1):
        for j in range(i):
            told = form_at(lines, form_between(many, i, j))
            if told is not None:
                if told[1] != 1:
                    return None
                rows[i][j] = told[0]
                rows[j][i] = -told[0]
    return tuple([tuple(row) for row in rows])


def form_between(many, first, second):
    """The form of the difference of two slots."""
    form = [0] * (many + 1)
    form[first] += 1
    form[second] -= 1
    return tuple(form[1:]) + (0,)
