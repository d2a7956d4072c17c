"""[D10] to [D15]: equations, held against rows reckoned in fractions."""

import itertools
import math
import random
import unittest
from fractions import Fraction

from soundlooks import equations as e
from soundlooks.differences import closed_differences, differences_hold
from soundlooks.errors import InvalidDifferences, InvalidEquations, InvalidRow, InvalidRows, InvalidSize, InvalidSlot
from soundlooks.errors import InvalidSlots, InvalidValues
from tests.refusing import ODD, UNASKED, asked_in_order, given_wrongs, index_wrongs
from tests.test_differences import drawn_differences


def rank(rows):
    """How many rows of fractions do not follow from the others."""
    rows = [[Fraction(number) for number in row] for row in rows]
    many = 0
    for at in range(len(rows[0]) if rows else 0):
        lead = next((row for row in rows[many:] if row[at] != 0), None)
        if lead is None:
            continue
        rows.remove(lead)
        rows = [[a - b * row[at] / lead[at] for a, b in zip(row, lead)] for row in rows]
        rows.insert(0, lead)
        many += 1
    return many


def follows(rows, row):
    return rank(list(rows) + [row]) == rank(rows)


def is_plain(many, told):
    """Whether rows are as D11 tells."""
    leads = []
    for row in told:
        if len(row) != many + 1 or math.gcd(*row) != 1:
            return False
        lead = next(at for at, number in enumerate(row) if number != 0)
        if lead == many or row[lead] < 0 or leads and lead <= leads[-1]:
            return False
        leads.append(lead)
    return all(other[lead] == 0 for row, lead in zip(told, leads) for other in told if other is not row)


def drawn_rows(drawn, many, most):
    return tuple(tuple(drawn.choice((-2, -1, 0, 0, 1, 1, 2, 3)) for _ in range(many + 1)) for _ in range(drawn.randint(0, most)))


def drawn_equations(drawn, many, most=3):
    return e.equations_from(many, drawn_rows(drawn, many, most))


class Drawn(unittest.TestCase):
    def setUp(self):
        self.drawn = random.Random(31)

    def told(self, times, most=4):
        for _ in range(times):
            many = self.drawn.randint(0, most)
            yield many, drawn_equations(self.drawn, many)

    def test_from(self):
        for _ in range(500):
            many = self.drawn.randint(0, 5)
            rows = drawn_rows(self.drawn, many, 5)
            found = e.equations_from(many, rows)
            self.assertTrue(e.is_equations(many, found))
            if found is None:
                self.assertGreater(rank(rows), rank([row[:-1] for row in rows]))
            else:
                self.assertTrue(is_plain(many, found))
                self.assertEqual(len(found), rank(rows))
                self.assertEqual(len(found), rank([row[:-1] for row in rows]))
                self.assertTrue(all(follows(found, row) for row in rows))
                self.assertEqual(e.equations_from(many, found[::-1] + rows[:3]), found)

    def test_keep_and_hold(self):
        for many, one in self.told(300):
            row = drawn_rows(self.drawn, many, 1) or ((0,) * (many + 1),)
            kept = one is None or follows(one, row[0])
            self.assertIs(e.equations_keep(many, one, row[0]), kept)
            if one:
                mixed = tuple(3 * a - 2 * b for a, b in zip(one[0], one[-1]))
                self.assertTrue(e.equations_keep(many, one, mixed))
            values = tuple(self.drawn.randint(-2, 2) for _ in range(many))
            so = one is not None and all(sum(a * v for a, v in zip(row, values)) == row[-1] for row in one)
            self.assertIs(e.equations_hold(many, one, values), so)
        self.assertTrue(e.equations_hold(2, ((1, 2, 3),), (1, 1)))

    def test_within_and_points(self):
        for many, one in self.told(400, 3):
            other = drawn_equations(self.drawn, many)
            is_within = one is None or other is not None and all(follows(one, row) for row in other)
            self.assertIs(e.equations_within(many, one, other), is_within)
            point = e.point_outside(many, one, other)
            self.assertIs(point is None, is_within)
            if point is not None:
                self.assertEqual(math.gcd(*point), 1)
                self.assertGreater(point[-1], 0)
                self.assertTrue(self.is_kept(one, point))
                self.assertFalse(self.is_kept(other, point))

    def is_kept(self, one, point):
        return one is not None and all(sum(a * p for a, p in zip(row, point[:-1])) == row[-1] * point[-1] for row in one)

    def test_joined_and_met(self):
        for many, one in self.told(400):
            other = drawn_equations(self.drawn, many)
            joined, met = e.equations_joined(many, one, other), e.equations_met(many, one, other)
            if one is None or other is None:
                self.assertEqual((joined, met), (other if one is None else one, None))
                continue
            self.assertTrue(is_plain(many, joined))
            self.assertTrue(all(follows(one, row) and follows(other, row) for row in joined))
            # As many rows as follow from both.
            self.assertEqual(len(joined), len(one) + len(other) - rank(one + other))
            self.assertEqual(met, e.equations_from(many, one + other))

    def test_guarded_and_form_value(self):
        for many, one in self.told(400):
            form = tuple(self.drawn.randint(-2, 2) for _ in range(many + 1))
            row = form[:-1] + (-form[-1],)
            expected = None if one is None else e.equations_from(many, one + (row,))
            self.assertEqual(e.equations_guarded(many, one, form), expected)
            value = e.form_value(many, one, form)
            if one is None:
                self.assertIsNone(value)
                continue
            self.assertIs(value is not None, rank(one) == rank([r[:-1] for r in one] + [form[:-1]]))
            if value is not None:
                p, q = value
                self.assertEqual((math.gcd(p, q), q > 0), (1, True))
                self.assertTrue(follows(one, tuple(q * a for a in form[:-1]) + (p - q * form[-1],)))

    def test_forgotten_set_and_kept(self):
        for many, one in self.told(300):
            for k in range(1, many + 1):
                forgotten = e.equations_forgotten(many, one, k)
                form = tuple(self.drawn.choice((-1, 0, 0, 1, 2)) for _ in range(many + 1))
                made = e.equations_set(many, one, k, form)
                if one is None:
                    self.assertEqual((forgotten, made), (None, None))
                    continue
                self.assertTrue(is_plain(many, forgotten) and is_plain(many, made))
                self.assertTrue(all(row[k - 1] == 0 and follows(one, row) for row in forgotten))
                self.assertEqual(len(forgotten), len(one) - (1 if any(row[k - 1] for row in one) else 0))
                for row in made + drawn_rows(self.drawn, many, 3):
                    a = row[k - 1]
                    back = [number + a * f for number, f in zip(row[:-1], form[:-1])] + [row[-1] - a * form[-1]]
                    back[k - 1] = a * form[k - 1]
                    self.assertIs(e.equations_keep(many, made, row), follows(one, back), (one, k, form, row))

    def test_kept(self):
        for many, one in self.told(300):
            slots = list(range(1, many + 1))
            self.drawn.shuffle(slots)
            slots = slots[:self.drawn.randint(0, many)] + [None] * self.drawn.randint(0, 2)
            self.drawn.shuffle(slots)
            kept = e.equations_kept(many, one, tuple(slots))
            if one is None:
                self.assertIsNone(kept)
                continue
            self.assertTrue(is_plain(len(slots), kept))
            gone = [at for at in range(many) if at + 1 not in slots]
            self.assertEqual(len(kept), rank(one) - rank([[row[at] for at in gone] for row in one]))
            for row in kept:
                back = [0] * many + [row[-1]]
                for number, slot in zip(row, slots):
                    if slot is None:
                        self.assertEqual(number, 0)
                    else:
                        back[slot - 1] = number
                self.assertTrue(follows(one, back))

    def test_rank(self):
        for many, one in self.told(200):
            self.assertEqual(e.equations_rank(many, one), many + 1 if one is None else len(one))
            joined = e.equations_joined(many, one, drawn_equations(self.drawn, many))
            if joined != one:
                self.assertLess(e.equations_rank(many, joined), e.equations_rank(many, one))

    def test_exchange(self):
        for _ in range(200):
            many = self.drawn.randint(0, 4)
            one = drawn_differences(self.drawn, many, (None, -1, 0, 0, 1))
            closed = closed_differences(many, one)
            found = e.equations_of(many, one)
            if closed is None:
                self.assertIsNone(found)
                continue
            rows = []
            for i, j in itertools.permutations(range(many + 1), 2):
                if closed[i][j] is not None and closed[i][j] == -(closed[j][i] if closed[j][i] is not None else closed[i][j] + 1):
                    row = [0] * (many + 1)
                    row[i] += 1
                    row[j] -= 1
                    rows.append(tuple(row[1:]) + (closed[i][j],))
            self.assertEqual(found, e.equations_from(many, tuple(rows)))
            back = e.differences_of(many, found)
            self.assertEqual(closed_differences(many, back), back)
            for i, j in itertools.product(range(many + 1), repeat=2):
                fixed = closed[j][i] is not None and closed[i][j] == -closed[j][i]
                self.assertEqual(back[i][j], closed[i][j] if fixed else None)

    def test_differences_of(self):
        self.assertEqual(e.differences_of(3, ((1, 0, 1, 2), (0, 1, 1, 5))), ((0, None, None, None), (None, 0, -3, None), (None, 3, 0, None), (None, None, None, 0)))
        self.assertEqual(e.differences_of(1, ((2, 3),)), None)
        self.assertEqual(e.differences_of(1, ((1, -3),)), ((0, 3), (-3, 0)))
        self.assertEqual(e.differences_of(0, ()), ((0,),))
        self.assertEqual(e.differences_of(0, None), None)
        self.assertTrue(differences_hold(2, e.differences_of(2, ((1, -1, 3),)), (8, 5)))


class Forms(unittest.TestCase):
    def test_is_equations(self):
        for value in ((), None, ((1, 2, 3),), ((2, 3, 5),), ((1, 0, 4), (0, 1, -9)), ((0, 1, 0),), ((2, 0, 1), (0, 3, 1)), ((1, -10 ** 50, 0),)):
            self.assertTrue(e.is_equations(2, value))
        for value in ODD + (0, ((),), ((1, 2),), ((1, 2, 3, 4),), [(1, 2, 3)], ([1, 2, 3],), ((0, 0, 0),), ((0, 0, 1),), ((2, 4, 6),), ((-1, 0, 0),),
                            ((0, 1, 0), (1, 0, 0)), ((1, 1, 0), (0, 1, 0)), ((1, 0, 0), (1, 0, 0)), ((1, 0, 0), (0, 1, 0), (0, 0, 1)),
                            ((1, True, 0),), ((1, None, 0),), ((UNASKED, 0, 0),), (UNASKED,)):
            self.assertIs(e.is_equations(2, value), False)
        self.assertTrue(e.is_equations(0, ()))
        self.assertFalse(e.is_equations(0, ((1,),)))

    def test_twenty_slots(self):
        rows = tuple((0,) * at + (1, 1) + (0,) * (18 - at) + (at,) for at in range(19))
        one = e.equations_from(20, rows)
        self.assertEqual(len(one), 19)
        self.assertEqual(e.equations_joined(20, one, one), one)
        self.assertEqual(e.equations_met(20, one, ((1,) + (0,) * 20,))[-1][-1], sum((-1) ** at * (18 - at) for at in range(19)))
        self.assertEqual(e.equations_rank(20, e.equations_forgotten(20, one, 7)), 18)


class Refusals(unittest.TestCase):
    right = ((1, 2, 3),)
    many = given_wrongs(InvalidSize, None, -1, 21, (), *ODD)
    one = given_wrongs(InvalidEquations, 0, ((2, 4, 6),), ((1, 2),), *ODD)
    slot = given_wrongs(InvalidSlot, None, 0, 3, (), *ODD)
    row = index_wrongs(InvalidRow, *[(value, None) for value in (None, 0, (), (1, 2)) + ODD], ((1, 2, True), 2), ((None, 2, "3"), 0), ((1, UNASKED, 0), 1))
    rows = index_wrongs(InvalidRows, *[(value, None) for value in (None, 0, ((1, 2, 3),) * 61) + ODD], ((1, 2, 3), 0), (((1, 2, 3), (1, 2)), 1),
                        (((1, 2, 3), (1, 2, False)), 1), ((UNASKED,), 0))
    values = index_wrongs(InvalidValues, (None, None), ((1,), None), ((1, None), 1))
    slots = index_wrongs(InvalidSlots, (None, None), ((None,) * 21, None), ((1, 1), 1), ((3,), 0))

    def asked(self, names, **right):
        told = {"many": self.many, "one": self.one, "other": self.one, "slot": self.slot, "row": self.row, "form": self.row, "rows": self.rows,
                "values": self.values, "slots": self.slots}
        for name in names.split():
            asked_in_order(self, getattr(e, name), right, {key: told[key] for key in right if key != "value"})

    def test_refusals(self):
        one = self.right
        self.asked("is_equations", many=2, value=one)
        self.asked("equations_from", many=2, rows=((0, 0, 0), (2, 4, 6)))
        self.assertEqual(e.equations_from(2, ((2, 4, 6),) * 60), one)
        self.asked("equations_hold", many=2, one=one, values=(1, 2))
        self.asked("equations_keep", many=2, one=one, row=(2, 4, 6))
        self.asked("form_value equations_guarded", many=2, one=one, form=(2, 4, 6))
        self.asked("point_outside equations_within equations_joined equations_met", many=2, one=one, other=None)
        self.asked("equations_forgotten", many=2, one=one, slot=2)
        self.asked("equations_set", many=2, one=one, slot=2, form=(0, 1, 4))
        self.asked("equations_kept", many=2, one=one, slots=(None, 2))
        self.asked("equations_rank differences_of", many=2, one=one)
        wrong = {"many": self.many, "one": given_wrongs(InvalidDifferences, 0, (), ((0, 1), (1, 0)), *ODD)}
        asked_in_order(self, e.equations_of, {"many": 2, "one": None}, wrong)


if __name__ == "__main__":
    unittest.main()
