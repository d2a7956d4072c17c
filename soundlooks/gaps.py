"""What can be done with differences that are taken for granted; how many slots they have they tell themselves."""

from soundlooks.basics import is_whole
from soundlooks.marking import mark_from, marks_above
from soundlooks.spans import end_sum, opposite


def is_gaps(many, value):
    """Whether a value is differences of so many slots."""
    if value is None:
        return True
    if not isinstance(value, tuple) or len(value) != many + 1:
        return False
    return all([is_gap_row(many, at, row) for at, row in enumerate(value)])


def is_gap_row(many, at, value):
    """Whether a value is the row at an index of differences of so many slots."""
    if not isinstance(value, tuple) or len(value) != many + 1:
        return False
    if not all([bound is None or is_whole(bound) for bound in value]):
        return False
    return value[at] == 0


def free_gaps(many):
    """The differences that hold all values."""
    indexes = range(many + 1)
    return tuple([tuple([0 if i == j else None for j in indexes]) for i in indexes])


def is_above(bound, other):
    """Whether a bound is above another one, None being above every number."""
    return other is not None and (bound is None or bound > other)


def lesser(bound, other):
    """The lesser one of two bounds."""
    return other if is_above(bound, other) else bound


def greater(bound, other):
    """The greater one of two bounds."""
    return bound if is_above(bound, other) else other


def gaps_hold(gaps, numbers):
    """Whether differences hold some values."""
    if gaps is None:
        return False
    told = (0,) + numbers
    for i, row in enumerate(gaps):
        if not all([bound is None or told[i] - told[j] <= bound for j, bound in enumerate(row)]):
            return False
    return True


def row_by_way(row, begun, through):
    """A row of bounds whose paths may also begin with this bound and go on as another row tells."""
    if begun is None:
        return row
    return [bound if way is None or (bound is not None and bound <= begun + way) else begun + way
            for bound, way in zip(row, through)]


def closing(gaps):
    """The closing of differences."""
    if gaps is None:
        return None
    rows = gaps
    for k in range(len(gaps)):
        through = rows[k]
        rows = [row_by_way(row, row[k], through) for row in rows]
        # Found at once, so that no bound gets out of hand by going round a ring again and again.
        if any([row[i] < 0 for i, row in enumerate(rows)]):
            return None
    return tuple([tuple(row) for row in rows])


def ring_in(gaps):
    """Any ring of differences; None if there is none."""
    if gaps is None or closing(gaps) is not None:
        return None
    # sums[i] is the least sum found so far of a path to i from anywhere, ahead[i] the index ahead of i on it.
    sums = [0 for _ in gaps]
    ahead = {}
    changed = 0
    for _ in gaps:
        for i, row in enumerate(gaps):
            for j, bound in enumerate(row):
                if bound is not None and sums[i] + bound < sums[j]:
                    sums[j] = sums[i] + bound
                    ahead[j] = i
                    changed = j
    return ring_behind(ahead, changed, len(gaps))


def ring_behind(ahead, index, many):
    """The ring to which the steps ahead of an index lead back, in the order of its path."""
    for _ in range(many):
        index = ahead[index]
    ring = [index]
    while ahead[ring[-1]] != index:
        ring.append(ahead[ring[-1]])
    return tuple(list(reversed(ring)))


def values_in(closed):
    """Any values that closed differences hold; None if there are none."""
    if closed is None:
        return None
    told = [0]
    for k in range(1, len(closed)):
        high = None
        opposite_low = None
        for i, number in enumerate(told):
            high = lesser(high, end_sum(closed[k][i], number))
            opposite_low = lesser(opposite_low, end_sum(closed[i][k], -number))
        # As the differences are closed, no lower end is above an upper one.
        if high is None:
            high = 0 if opposite_low is None else -opposite_low
        told.append(high)
    return tuple(told[1:])


def span_between(closed, first, second):
    """The stretch of the differences of two slots in closed differences."""
    return () if closed is None else (opposite(closed[second][first]), closed[first][second])


def bounds_within(closed, gaps):
    """Whether closed differences are within others."""
    if closed is None or gaps is None:
        return closed is None
    for row, other in zip(closed, gaps):
        if any([is_above(bound, beside) for bound, beside in zip(row, other)]):
            return False
    return True


def gaps_within(gaps, other):
    """Whether other differences hold all values that differences hold."""
    return bounds_within(closing(gaps), other)


def gaps_joined(gaps, other):
    """The least differences of all values that one of both holds."""
    closed, beside = closing(gaps), closing(other)
    if closed is None or beside is None:
        return beside if closed is None else closed
    return tuple([tuple([greater(one, two) for one, two in zip(row, rest)]) for row, rest in zip(closed, beside)])


def gaps_met(gaps, other):
    """The closed differences of the values that both hold."""
    if gaps is None or other is None:
        return None
    return closing([[lesser(one, two) for one, two in zip(row, rest)] for row, rest in zip(gaps, other)])


def gaps_guarded(gaps, bounds):
    """The closed differences of the values for which v_i - v_j is up to c, for each triple (i, j, c)."""
    if gaps is None:
        return None
    rows = [list(row) for row in gaps]
    for i, j, bound in bounds:
        rows[i][j] = lesser(rows[i][j], bound)
    return closing(rows)


def gaps_unlike(gaps, first, second, number):
    """The least differences of the values with another difference of two slots than a number."""
    below = gaps_guarded(gaps, [(first, second, number - 1)])
    above = gaps_guarded(gaps, [(second, first, -number - 1)])
    return gaps_joined(below, above)


def closed_forgotten(closed, slot):
    """Closed differences with a slot forgotten."""
    if closed is None:
        return None
    return tuple([tuple([0 if i == j else None if slot in (i, j) else bound for j, bound in enumerate(row)])
                  for i, row in enumerate(closed)])


def closed_set(closed, slot, source, number):
    """Closed differences with a slot set to another one, or itself, and a number."""
    if closed is None:
        return None
    rows = [list(row) for row in closed]
    for m in range(len(closed)):
        if m != slot:
            rows[slot][m] = end_sum(closed[source][m], number)
            rows[m][slot] = end_sum(closed[m][source], -number)
    return tuple([tuple(row) for row in rows])


def closed_kept(closed, slots):
    """Closed differences kept at a tuple of slots, None standing for fresh ones."""
    if closed is None:
        return None
    kept = (0,) + slots
    indexes = range(len(kept))
    return tuple([
        tuple([0 if i == j else None if kept[i] is None or kept[j] is None else closed[kept[i]][kept[j]]
               for j in indexes])
        for i in indexes
    ])


def gaps_widened(marks, gaps, other):
    """Differences, as they stand, widened by others."""
    closed = closing(other)
    if closed is None or gaps is None:
        return gaps if closed is None else closed
    return tuple([
        tuple([mark_from(marks, beside) if is_above(beside, bound) else bound for bound, beside in zip(row, told)])
        for row, told in zip(gaps, closed)
    ])


def gaps_rank(marks, many, gaps):
    """The rank of differences of so many slots for marks."""
    if gaps is None:
        return 1 + many * (many + 1) * (1 + len(marks))
    rank = 0
    for i, row in enumerate(gaps):
        told = [bound for j, bound in enumerate(row) if j != i and bound is not None]
        rank += sum([1 + marks_above(marks, bound) for bound in told])
    return rank
