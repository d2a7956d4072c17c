"""[D1] to [D9]: differences, held against the values that they hold."""

import itertools
import random
import unittest

from soundlooks import differences as d
from soundlooks.errors import InvalidDifferences, InvalidMarks, InvalidNumber, InvalidSize, InvalidSlot, InvalidSlots
from soundlooks.errors import InvalidValues
from tests.refusing import ODD, UNASKED, asked_in_order, given_wrongs, index_wrongs

# Bounds above this are those of differences without an end, where values are looked at within BOXES alone.
MOST = 9
BOXES = {0: 0, 1: 30, 2: 16, 3: 9, 4: 10}


def drawn_differences(drawn, many, bounds):
    return tuple(tuple(0 if i == j else drawn.choice(bounds) for j in range(many + 1)) for i in range(many + 1))


def is_held(one, values):
    if one is None:
        return False
    told = (0,) + values
    for i, row in enumerate(one):
        for j, bound in enumerate(row):
            if bound is not None and told[i] - told[j] > bound:
                return False
    return True


def lot_of(many, one):
    """All values within the box, slot by slot as far as those ahead let them be."""
    if one is None:
        return []
    found = [()] if all(one[i][i] == 0 for i in range(many + 1)) else []
    for k in range(1, many + 1):
        found = [values + (n,) for values in found for n in range(-BOXES[many], BOXES[many] + 1) if fits(one, (0,) + values, k, n)]
    return found


def fits(one, told, k, n):
    for j, number in enumerate(told):
        if one[k][j] is not None and n - number > one[k][j] or one[j][k] is not None and number - n > one[j][k]:
            return False
    return True


def least(many, lot, most=MOST):
    """The least differences of a lot, those that are above a number being taken for endless."""
    if not lot:
        return None
    rows = [[0] * (many + 1) for _ in range(many + 1)]
    for i in range(many + 1):
        for j in range(many + 1):
            told = max((((0,) + values)[i] - ((0,) + values)[j]) for values in lot)
            rows[i][j] = told if told <= most else None
    return tuple(tuple(row) for row in rows)


def by_paths(many, one):
    """The closing by adding up paths twice as long again and again; None if it gets below 0 on the way back."""
    size = many + 1
    rows = one
    for _ in range(6):
        rows = [[min_of([plus(rows[i][k], rows[k][j]) for k in range(size)]) for j in range(size)] for i in range(size)]
        if any(rows[i][i] < 0 for i in range(size)):
            return None
    return tuple(tuple(row) for row in rows)


def plus(a, b):
    return None if a is None or b is None else a + b


def min_of(bounds):
    told = [bound for bound in bounds if bound is not None]
    return min(told) if told else None


def sum_round(one, ring):
    return sum(one[i][j] for i, j in zip(ring, ring[1:] + ring[:1]))


class Drawn(unittest.TestCase):
    """Differences of 0 to 4 slots beside all their values within a box."""

    def setUp(self):
        drawn = random.Random(3)
        self.drawn = drawn
        self.told = [(0, ((0,),)), (0, None), (1, None), (2, None)]
        ends = (None, -2, -1, 0, 1, 2)
        self.told += [(1, ((0, a), (b, 0))) for a in ends for b in ends]
        self.told += [(2, drawn_differences(drawn, 2, (None, None, -2, -1, 0, 1, 2, 3))) for _ in range(150)]
        self.told += [(3, drawn_differences(drawn, 3, (None, None, -1, 0, 1, 1))) for _ in range(30)]
        self.told += [(4, drawn_differences(drawn, 4, (None, 0, 0, 1, 1, 1, 1))) for _ in range(4)]
        # Within these boxes nothing that has an end goes beyond this.
        self.most = {0: MOST, 1: MOST, 2: 8, 3: 5, 4: 6}

    def least(self, many, lot):
        return least(many, lot, self.most[many])

    def test_holds(self):
        for many, one in self.told:
            reach = range(-BOXES[many], BOXES[many] + 1)
            for values in [tuple(self.drawn.choice(reach) for _ in range(many)) for _ in range(40)] + lot_of(many, one)[:40]:
                self.assertIs(d.differences_hold(many, one, values), is_held(one, values))

    def test_closing_is_the_least(self):
        for many, one in self.told:
            closed = d.closed_differences(many, one)
            self.assertEqual(closed, self.least(many, lot_of(many, one)), (many, one))
            self.assertEqual(d.closed_differences(many, closed), closed)

    def test_rings_and_values(self):
        for many, one in self.told:
            ring, values = d.ring_of(many, one), d.some_values(many, one)
            if one is None:
                self.assertEqual((ring, values), (None, None))
            elif values is None:
                self.assertIsInstance(ring, tuple)
                self.assertGreaterEqual(len(ring), 2)
                self.assertEqual(len(set(ring)), len(ring))
                self.assertTrue(all(0 <= index <= many for index in ring))
                self.assertLess(sum_round(one, ring), 0)
                self.assertEqual(lot_of(many, one), [])
            else:
                self.assertIsNone(ring)
                self.assertTrue(is_held(one, values))
                self.assertEqual(len(values), many)

    def test_values_apart_and_stretches(self):
        for many, one in self.told:
            closed = d.closed_differences(many, one)
            for first in range(many + 1):
                for second in range(many + 1):
                    stretch = d.stretch_between(many, one, first, second)
                    if closed is None:
                        self.assertEqual(stretch, ())
                    else:
                        low = closed[second][first]
                        self.assertEqual(stretch, (None if low is None else -low, closed[first][second]))
                    for number in (-12, -3, -1, 0, 1, 2, 10):
                        values = d.values_apart(many, one, first, second, number)
                        is_told = stretch != () and (stretch[0] is None or stretch[0] <= number) and (
                            stretch[1] is None or number <= stretch[1])
                        self.assertIs(values is not None, is_told)
                        if values is not None:
                            self.assertTrue(is_held(one, values))
                            self.assertEqual(((0,) + values)[first] - ((0,) + values)[second], number)

    def test_within_joined_met(self):
        for many in (0, 1, 2, 3):
            told = [one for size, one in self.told if size == many][:40]
            lots = [lot_of(many, one) for one in told]
            pairs = list(itertools.product(range(len(told)), repeat=2))
            for at, by in pairs if many < 2 else self.drawn.sample(pairs, 250):
                one, other = told[at], told[by]
                self.assertIs(d.differences_within(many, one, other), set(lots[at]) <= set(lots[by]))
                self.assertEqual(d.differences_joined(many, one, other), self.least(many, lots[at] + lots[by]))
                self.assertEqual(d.differences_met(many, one, other), self.least(many, [v for v in lots[at] if v in set(lots[by])]))

    def test_guarded_and_unlike(self):
        for many, one in self.told:
            lot = lot_of(many, one)
            for _ in range(6):
                i, j, c = self.drawn.randint(0, many), self.drawn.randint(0, many), self.drawn.randint(-2, 2)

                def apart(values):
                    return ((0,) + values)[i] - ((0,) + values)[j]

                self.assertEqual(d.differences_guarded(many, one, i, j, c), self.least(many, [v for v in lot if apart(v) <= c]))
                self.assertEqual(d.differences_unlike(many, one, i, j, c), self.least(many, [v for v in lot if apart(v) != c]))

    def test_forgotten(self):
        for many, one in self.told:
            reach = range(-BOXES[many], BOXES[many] + 1)
            for k in range(1, many + 1):
                lot = {values[:k - 1] + (n,) + values[k:] for values in lot_of(many, one) for n in reach}
                self.assertEqual(d.differences_forgotten(many, one, k), self.least(many, lot))

    def test_set(self):
        for many, one in self.told:
            lot = lot_of(many, one)
            for k in range(1, many + 1):
                for i in range(many + 1):
                    c = self.drawn.randint(-1, 1)
                    after = [values[:k - 1] + (((0,) + values)[i] + c,) + values[k:] for values in lot]
                    self.assertEqual(d.differences_set(many, one, k, i, c), self.least(many, after), (one, k, i, c))

    def test_kept(self):
        for many, one in self.told:
            lot = lot_of(many, one)
            for _ in range(4):
                slots = list(range(1, many + 1))
                self.drawn.shuffle(slots)
                slots = slots[:self.drawn.randint(0, many)]
                for _ in range(self.drawn.randint(0, 1 if len(slots) < 3 else 0)):
                    slots.insert(self.drawn.randint(0, len(slots)), None)
                reach = range(-BOXES[many], BOXES[many] + 1) if many else range(-30, 31)
                kept = {tuple(None if k is None else values[k - 1] for k in slots) for values in lot}
                if None in slots:
                    at = slots.index(None)
                    kept = {values[:at] + (n,) + values[at + 1:] for values in kept for n in reach}
                self.assertEqual(d.differences_kept(many, one, tuple(slots)), least(len(slots), kept, self.most[many]))

    def test_all_grow(self):
        for many in (1, 2, 3):
            told = [one for size, one in self.told if size == many]
            for _ in range(150):
                less, other = self.drawn.choice(told), self.drawn.choice(told)
                more = d.differences_joined(many, less, self.drawn.choice(told))
                i, j, k = self.drawn.randint(0, many), self.drawn.randint(0, many), self.drawn.randint(1, many)
                for make in (
                    lambda one: d.differences_joined(many, one, other), lambda one: d.differences_met(many, other, one),
                    lambda one: d.differences_guarded(many, one, i, j, 1), lambda one: d.differences_unlike(many, one, i, j, 0),
                    lambda one: d.differences_forgotten(many, one, k), lambda one: d.differences_set(many, one, k, i, 2),
                ):
                    self.assertTrue(d.differences_within(many, make(less), make(more)))


class Forms(unittest.TestCase):
    def test_is_differences(self):
        for many in (0, 1, 2, 20):
            free = d.free_differences(many)
            self.assertEqual(free, tuple(tuple(0 if i == j else None for j in range(many + 1)) for i in range(many + 1)))
            self.assertTrue(d.is_differences(many, free))
            self.assertTrue(d.is_differences(many, None))
            for value in ODD + (0, (), ((),), free[:-1], free + (free[0],), list(free), free[:-1] + (list(free[-1]),), ((1,),) * (many + 1),
                                free[:-1] + (free[-1] + (0,),), free[:-1] + (free[-1][:-1],), free[:-1] + (free[-1][:-1] + (None,),),
                                free[:-1] + (free[-1][:-1] + (False,),), free[:-1] + (UNASKED,), free[:-1] + (free[-1][:-1] + (UNASKED,),)):
                self.assertIs(d.is_differences(many, value), False, value)
        self.assertTrue(d.is_differences(1, ((0, -5), (4, 0))))
        self.assertFalse(d.is_differences(1, ((0, True), (4, 0))))
        self.assertFalse(d.is_differences(1, ((0, "1"), (4, 0))))
        self.assertFalse(d.is_differences(2, ((0, -5), (4, 0))))

    def test_twenty_slots(self):
        drawn = random.Random(9)
        seen = set()
        for at in range(30):
            one = drawn_differences(drawn, 20, (None,) * (8, 30, 60)[at % 3] + (-1, 0, 1, 5, 9, 10 ** 30) + (20,) * 5)
            closed = d.closed_differences(20, one)
            self.assertEqual(closed, by_paths(20, one))
            seen.add(closed is None)
            values = d.some_values(20, one)
            if closed is None:
                self.assertLess(sum_round(one, d.ring_of(20, one)), 0)
                self.assertIsNone(values)
            else:
                self.assertTrue(d.differences_hold(20, one, values))
                self.assertIsNone(d.ring_of(20, one))
        self.assertEqual(seen, {True, False})

    def test_all_functions_at_twenty_slots(self):
        drawn = random.Random(10)
        told = [drawn_differences(drawn, 20, (None,) * 40 + (0, 1, 3, 8, 8, 9)) for _ in range(6)]
        for one, other in zip(told, told[1:]):
            closed, beside = by_paths(20, one), by_paths(20, other)
            joined, met = d.differences_joined(20, one, other), d.differences_met(20, one, other)
            indexes = range(21)
            self.assertEqual(joined, tuple(tuple(
                None if None in (closed[i][j], beside[i][j]) else max(closed[i][j], beside[i][j]) for j in indexes) for i in indexes))
            self.assertEqual(met, by_paths(20, tuple(tuple(min_of([one[i][j], other[i][j]]) for j in indexes) for i in indexes)))
            i, j, k = drawn.sample(range(1, 21), 3)
            less = by_paths(20, tuple(tuple(min_of([one[a][b], -2 if (a, b) == (i, j) else None]) for b in indexes) for a in indexes))
            self.assertEqual(d.differences_guarded(20, one, i, j, -2), less)
            made = d.differences_set(20, one, k, i, 4)
            self.assertEqual(d.stretch_between(20, made, k, i), (4, 4))
            self.assertEqual(d.differences_forgotten(20, made, k), d.differences_forgotten(20, one, k))
            slots = tuple(drawn.sample(range(1, 21), 20))
            kept = d.differences_kept(20, one, slots)
            self.assertEqual([kept[a + 1][b + 1] for a in range(20) for b in range(20)], [closed[slots[a]][slots[b]] for a in range(20) for b in range(20)])
            self.assertTrue(d.differences_within(20, one, joined) and d.differences_within(20, met, one))
            values = d.values_apart(20, one, i, j, 0) or d.some_values(20, one)
            self.assertTrue(d.differences_hold(20, one, values))

    def test_long_rings(self):
        for many in (1, 2, 7, 20):
            rows = [[0 if i == j else None for j in range(many + 1)] for i in range(many + 1)]
            for i in range(many + 1):
                rows[i][(i + 1) % (many + 1)] = 3
            for last, is_ring in ((-3 * many, False), (-3 * many - 1, True), (-10 ** 50, True)):
                rows[many][0] = last
                one = tuple(tuple(row) for row in rows)
                ring = d.ring_of(many, one)
                if is_ring:
                    self.assertEqual(sorted(ring), list(range(many + 1)))
                    self.assertEqual(sum_round(one, ring), 3 * many + last)
                else:
                    self.assertIsNone(ring)
                    self.assertTrue(d.differences_hold(many, one, d.some_values(many, one)))

    def test_several_rings(self):
        one = ((0, -1, None, None), (0, 0, None, None), (None, None, 0, -5), (None, None, 4, 0))
        self.assertIn(sorted(d.ring_of(3, one)), ([0, 1], [2, 3]))


class Widening(unittest.TestCase):
    marks = ((), (0,), (-2, 1, 3), tuple(range(-6, 7)), (-10 ** 40, 10 ** 40))

    def told(self, marks, one, closed):
        """What D8 tells, bound by bound."""
        rows = []
        for row, beside in zip(one, closed):
            found = []
            for bound, other in zip(row, beside):
                if bound is None or (other is not None and other <= bound):
                    found.append(bound)
                else:
                    above = [mark for mark in marks if other is not None and mark >= other]
                    found.append(above[0] if above else None)
            rows.append(tuple(found))
        return tuple(rows)

    def test_widened(self):
        drawn = random.Random(17)
        for _ in range(600):
            many = drawn.randint(0, 3)
            marks = drawn.choice(self.marks)
            one = drawn.choice((None,) + (drawn_differences(drawn, many, (None, -2, 0, 1, 2, 4)),) * 6)
            other = drawn.choice((None,) + (drawn_differences(drawn, many, (None, -1, 0, 1, 3)),) * 6)
            found = d.differences_widened(many, marks, one, other)
            closed = d.closed_differences(many, other)
            if closed is None:
                self.assertEqual(found, one)
            elif one is None:
                self.assertEqual(found, closed)
            else:
                self.assertEqual(found, self.told(marks, one, closed))
            self.assertTrue(d.differences_within(many, one, found) and d.differences_within(many, other, found))
            is_within = d.differences_within(many, other, one)
            self.assertIs(found == one, is_within)
            if not is_within:
                self.assertLess(d.differences_rank(many, marks, found), d.differences_rank(many, marks, one))

    def test_what_is_passed_is_not_closed_ahead(self):
        ring = ((0, -1), (0, 0))
        self.assertEqual(d.differences_widened(1, (), ring, None), ring)
        self.assertEqual(d.differences_widened(1, (), ring, ((0, 0), (0, 0))), ((0, None), (0, 0)))
        self.assertEqual(d.differences_widened(1, (), ((0, 0), (0, 0)), ring), ((0, 0), (0, 0)))
        self.assertEqual(d.differences_widened(1, (), None, ring), None)
        loose = ((0, None, None), (5, 0, 9), (0, None, 0))
        self.assertEqual(d.differences_widened(2, (), loose, ((0, 0, 0), (1, 0, 0), (1, 0, 0))), ((0, None, None), (5, 0, 9), (None, None, 0)))
        # The other one is closed: v_1 is up to 2 + 1 there.
        other = ((0, None, None), (50, 0, 2), (1, None, 0))
        self.assertEqual(d.differences_widened(2, (3, 50), ((0, None, None), (0, 0, None), (9, None, 0)), other)[1][0], 3)

    def test_the_row_that_would_not_end(self):
        first = ((0, None, None), (0, 0, 1), (1, 1, 0))
        second = d.differences_widened(2, (), first, ((0, None, None), (2, 0, 1), (1, 1, 0)))
        self.assertEqual(second, ((0, None, None), (None, 0, 1), (1, 1, 0)))
        self.assertEqual(d.closed_differences(2, second)[1][0], 2)
        third = d.differences_widened(2, (), second, ((0, None, None), (2, 0, 1), (3, 1, 0)))
        self.assertEqual(third, ((0, None, None), (None, 0, 1), (None, 1, 0)))
        self.assertEqual(d.closed_differences(2, third), third)

    def test_rows_of_widenings_end(self):
        drawn = random.Random(23)
        for _ in range(60):
            many, marks = drawn.randint(0, 3), drawn.choice(self.marks)
            one, changes = None, 0
            rank = d.differences_rank(many, marks, None)
            self.assertEqual(rank, 1 + many * (many + 1) * (1 + len(marks)))
            for at in range(80):
                further = d.differences_widened(many, marks, one, drawn_differences(drawn, many, (None, -1, 0, 1, 2, at)))
                if further != one:
                    self.assertLess(d.differences_rank(many, marks, further), d.differences_rank(many, marks, one))
                    changes += 1
                one = further
            self.assertLessEqual(changes, rank)

    def test_rank(self):
        for marks in self.marks:
            one = ((0, -3, None), (2, 0, 0), (None, 7, 0))
            told = sum(1 + sum(mark > bound for mark in marks) for bound in (-3, 2, 0, 7))
            self.assertEqual(d.differences_rank(2, marks, one), told)
            self.assertEqual(d.differences_rank(2, marks, d.free_differences(2)), 0)
            self.assertEqual(d.differences_rank(0, marks, ((0,),)), 0)
            self.assertEqual(d.differences_rank(0, marks, None), 1)


class Refusals(unittest.TestCase):
    right = ((0, 1, None), (2, 0, 3), (None, 4, 0))
    many = given_wrongs(InvalidSize, None, -1, 21, (), (1,), 10 ** 30, *ODD)
    one = given_wrongs(
        InvalidDifferences, 0, (), ((0,),), right[:2], right + (right[0],), (right[0], right[1], (None, 4, 1)), (right[0], right[1], (0, True, 0)),
        (UNASKED,) * 3, ((UNASKED,) * 3,) * 3, *ODD)
    slot = given_wrongs(InvalidSlot, None, 0, -1, 3, (), (1,), 10 ** 30, *ODD)
    index = given_wrongs(InvalidSlot, None, -1, 3, (), (1,), 10 ** 30, *ODD)
    number = given_wrongs(InvalidNumber, None, (), (1,), *ODD)
    values = index_wrongs(
        InvalidValues, *[(value, None) for value in (None, 0, (), (1,), (1, 2, 3)) + ODD], ((None, 1), 0), ((1, True), 1), ((1, "2"), 1),
        ((UNASKED, None), 0))
    slots = index_wrongs(
        InvalidSlots, *[(value, None) for value in (None, 0, (None,) * 21) + ODD], ((0,), 0), ((1, 1), 1), ((None, 2, 3), 2), ((2, None, -1), 2),
        ((1, None, None, True), 3), (("1", 5), 0), ((2, UNASKED), 1), ((1, 2, None, 2, 0), 3))
    marks = index_wrongs(
        InvalidMarks, *[(value, None) for value in (None, 0) + ODD], ((1, True), 1), ((None,), 0), ((0, 0), 1), ((0, 2, 1), 2), ((3, UNASKED), 1))

    def asked(self, names, **right):
        told = {"many": self.many, "one": self.one, "other": self.one, "slot": self.slot, "first": self.index, "second": self.index,
                "source": self.index, "number": self.number, "values": self.values, "slots": self.slots, "marks": self.marks}
        for name in names.split():
            wrongs = {key: told[key] for key in right if key != "value"}
            asked_in_order(self, getattr(d, name), right, wrongs)

    def test_refusals(self):
        one = self.right
        self.asked("is_differences", many=2, value=one)
        self.asked("free_differences", many=2)
        self.asked("differences_hold", many=2, one=one, values=(1, 2))
        self.asked("closed_differences ring_of some_values", many=2, one=one)
        self.asked("values_apart differences_guarded differences_unlike", many=2, one=one, first=0, second=2, number=-4)
        self.asked("stretch_between", many=2, one=one, first=2, second=2)
        self.asked("differences_within differences_joined differences_met", many=2, one=one, other=None)
        self.asked("differences_forgotten", many=2, one=one, slot=2)
        self.asked("differences_set", many=2, one=one, slot=2, source=0, number=7)
        self.asked("differences_kept", many=2, one=one, slots=(None, 2, None))
        self.asked("differences_widened", many=2, marks=(1, 2), one=one, other=None)
        self.asked("differences_rank", many=2, marks=(), one=one)
        self.assertEqual(len(d.differences_kept(2, one, (None,) * 20)), 21)


if __name__ == "__main__":
    unittest.main()
