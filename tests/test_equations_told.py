"""[D10] to [D15] once more: the one form of rows, points, and what is done with equations, by hand and against points."""

import itertools
import math
import random
import unittest
from fractions import Fraction

from soundlooks import differences as d
from soundlooks import equations as e
from tests.test_equations import drawn_equations, drawn_rows, is_plain, rank


def point_equations(values):
    """The equations of some values alone."""
    n = len(values)
    return tuple(tuple(1 if k == at else 0 for k in range(n)) + (value,) for at, value in enumerate(values))


def is_kept(rows, point):
    """Whether a point, a tuple of fractions, keeps rows."""
    return rows is not None and all(sum(a * v for a, v in zip(row, point)) == row[-1] for row in rows)


def some_points(drawn, many, rows, times=4):
    """Some points of equations, as tuples of fractions, with any numbers where no row leads."""
    leads = [next(at for at, number in enumerate(row) if number != 0) for row in rows]
    for _ in range(times):
        point = [Fraction(drawn.randint(-6, 6), drawn.randint(1, 3)) for _ in range(many)]
        for row, lead in zip(rows, leads):
            told = row[-1] - sum(row[at] * point[at] for at in range(many) if at not in leads)
            point[lead] = Fraction(told) / row[lead]
        yield tuple(point)


class OneForm(unittest.TestCase):
    def setUp(self):
        self.drawn = random.Random(1101)

    def mixed(self, rows):
        """Rows that are kept by the same points: multiplied, added to one another, with noughts, in another order."""
        made = []
        for row in rows:
            times = self.drawn.choice((-3, -1, 1, 2, 5))
            made.append(tuple(times * number for number in row))
        for _ in range(6 if len(made) > 1 else 0):
            one, other = self.drawn.sample(range(len(made)), 2)
            times = self.drawn.choice((-2, -1, 1, 3))
            made[one] = tuple(a + times * b for a, b in zip(made[one], made[other]))
        if made:
            made.append(made[0])
            made.append(tuple([0] * len(made[0])))
        self.drawn.shuffle(made)
        return tuple(made)

    def test_mixed_rows(self):
        sizes = [0, 1, 2, 3, 4] * 60 + [20] * 8
        for many in sizes:
            one = drawn_equations(self.drawn, many, min(many, 5))
            if one is None:
                continue
            self.assertTrue(is_plain(many, one))
            for _ in range(3):
                self.assertEqual(e.equations_from(many, self.mixed(one)), one)
            if one:
                row = self.mixed(one)[0]
                self.assertIsNone(e.equations_from(many, self.mixed(one) + one[:1] + (one[0][:-1] + (one[0][-1] + 1,),)), row)

    def test_by_hand(self):
        for many, rows, expected in (
            (0, (), ()), (0, ((0,), (0,)), ()), (0, ((5,),), None), (0, ((0,), (-1,)), None),
            (1, ((0, 0),), ()), (1, ((-4, 6),), ((2, -3),)), (1, ((2, 1), (4, 2)), ((2, 1),)), (1, ((2, 1), (2, 3)), None), (1, ((0, 7),), None),
            (1, ((-1, 0),), ((1, 0),)), (2, ((0, -2, 4), (3, 0, 1)), ((3, 0, 1), (0, 1, -2))), (2, ((1, 1, 1), (1, -1, 0)), ((2, 0, 1), (0, 2, 1))),
            (2, ((6, 4, 2),), ((3, 2, 1),)), (3, ((0, 0, 5, 0), (0, 2, 4, 6)), ((0, 1, 0, 3), (0, 0, 1, 0))),
            (3, ((1, 2, 3, 4), (5, 6, 7, 8), (9, 10, 11, 12)), ((1, 0, -1, -2), (0, 1, 2, 3))), (3, ((1, 2, 3, 4), (5, 6, 7, 8), (9, 10, 11, 13)), None),
            (4, ((2, 0, 0, 0, 1), (0, 3, 0, 0, 1), (0, 0, 5, 0, 1), (0, 0, 0, 7, 1)), ((2, 0, 0, 0, 1), (0, 3, 0, 0, 1), (0, 0, 5, 0, 1), (0, 0, 0, 7, 1))),
        ):
            self.assertEqual(e.equations_from(many, rows), expected)
            for order in itertools.permutations(rows):
                self.assertEqual(e.equations_from(many, order), expected)

    def test_great_numbers(self):
        great = 10 ** 200
        self.assertEqual(e.equations_from(2, ((great, 0, great * 3), (great, great, 0))), ((1, 0, 3), (0, 1, -3)))
        self.assertEqual(e.equations_from(2, ((great, 1, 0),)), ((great, 1, 0),))

    def test_twenty_slots(self):
        sums = tuple((1,) * (at + 1) + (0,) * (19 - at) + (at * at,) for at in range(20))
        one = e.equations_from(20, sums)
        self.assertEqual(one, point_equations((0,) + tuple(2 * at - 1 for at in range(1, 20))))
        self.assertEqual(e.equations_from(20, self.mixed(one)), one)
        self.assertEqual(e.equations_forgotten(20, one, 20), one[:19])
        self.assertEqual(e.equations_kept(20, one, tuple(range(20, 0, -1))), point_equations(tuple(row[-1] for row in one[::-1])))
        self.assertEqual(e.form_value(20, one, (1,) * 20 + (1,)), (19 * 19 + 1, 1))
        joined = e.equations_joined(20, one, point_equations((1,) * 20))
        self.assertEqual(len(joined), 19)
        self.assertTrue(is_kept(joined, tuple(row[-1] for row in one)) and is_kept(joined, (1,) * 20))


class Points(unittest.TestCase):
    def setUp(self):
        self.drawn = random.Random(1102)

    def drawn_pairs(self, times=150):
        for _ in range(times):
            many = self.drawn.randint(0, 4)
            yield many, drawn_equations(self.drawn, many), drawn_equations(self.drawn, many)

    def test_a_point_of_the_one_and_not_of_the_other(self):
        told = [(1, (), None, (0, 1)), (0, (), None, (1,)), (1, ((2, 1),), None, (1, 2)), (2, ((2, 0, 1), (0, 2, 1)), None, (1, 1, 2)),
                (2, ((2, 0, 1), (0, 3, 1)), ((1, 0, 0),), (3, 2, 6))]
        for many, one, other, expected in told:
            self.assertEqual(e.point_outside(many, one, other), expected)
        self.assertIsNone(e.point_outside(2, None, None))
        self.assertIsNone(e.point_outside(2, None, ()))
        self.assertIsNone(e.point_outside(2, ((1, 0, 2), (0, 1, 3)), ((1, 1, 5),)))
        found = set()
        for many, one, other in self.drawn_pairs(300):
            point = e.point_outside(many, one, other)
            self.assertIs(point is None, e.equations_within(many, one, other))
            found.add(point is None)
            if point is not None:
                self.assertEqual((len(point), math.gcd(*point), point[-1] > 0), (many + 1, 1, True))
                told = tuple(Fraction(number, point[-1]) for number in point[:-1])
                self.assertTrue(is_kept(one, told))
                self.assertFalse(is_kept(other, told))
        self.assertEqual(found, {True, False})

    def test_joined_and_met_either_way_round(self):
        for many, one, other in self.drawn_pairs():
            joined, met = e.equations_joined(many, one, other), e.equations_met(many, one, other)
            self.assertEqual(joined, e.equations_joined(many, other, one))
            self.assertEqual(met, e.equations_met(many, other, one))
            self.assertEqual((e.equations_joined(many, one, None), e.equations_joined(many, None, one)), (one, one))
            self.assertEqual((e.equations_met(many, one, None), e.equations_met(many, None, one)), (None, None))
            self.assertEqual((e.equations_joined(many, one, one), e.equations_met(many, one, one)), (one, one))
            self.assertTrue(e.equations_within(many, one, joined) and e.equations_within(many, other, joined))
            self.assertTrue(e.equations_within(many, met, one) and e.equations_within(many, met, other))
            for rows in (one, other):
                for point in some_points(self.drawn, many, rows or ()) if rows is not None else ():
                    self.assertTrue(is_kept(joined, point))
                    self.assertIs(is_kept(met, point), is_kept(one, point) and is_kept(other, point))

    def test_what_is_done_is_done_to_points(self):
        for many, one, _ in self.drawn_pairs(200):
            form = (drawn_rows(self.drawn, many, 1) or ((0,) * (many + 1),))[0]
            value = e.form_value(many, one, form)
            guarded = e.equations_guarded(many, one, form)
            for point in some_points(self.drawn, many, one) if one is not None else ():
                number = sum(a * v for a, v in zip(form, point)) + form[-1]
                self.assertTrue(value is None or Fraction(*value) == number)
                self.assertIs(is_kept(guarded, point), number == 0)
                for k in range(1, many + 1):
                    anywhere = point[:k - 1] + (Fraction(7, 3),) + point[k:]
                    self.assertTrue(is_kept(e.equations_forgotten(many, one, k), anywhere))
                    self.assertTrue(is_kept(e.equations_set(many, one, k, form), point[:k - 1] + (number,) + point[k:]))
                slots = tuple(self.drawn.sample(range(1, many + 1), self.drawn.randint(0, many)))
                self.assertTrue(is_kept(e.equations_kept(many, one, slots), tuple(point[slot - 1] for slot in slots)))
                free = (None,) + slots + (None,)
                told = (Fraction(1, 7),) + tuple(point[slot - 1] for slot in slots) + (Fraction(-5),)
                self.assertTrue(is_kept(e.equations_kept(many, one, free), told))

    def test_all_these_grow(self):
        for many, one, more in self.drawn_pairs(150):
            wider = e.equations_joined(many, one, more)
            form = (drawn_rows(self.drawn, many, 1) or ((0,) * (many + 1),))[0]
            slots = tuple(self.drawn.sample(range(1, many + 1), self.drawn.randint(0, many))) + (None,)
            self.assertTrue(e.equations_within(many, e.equations_guarded(many, one, form), e.equations_guarded(many, wider, form)))
            self.assertTrue(e.equations_within(len(slots), e.equations_kept(many, one, slots), e.equations_kept(many, wider, slots)))
            for k in range(1, many + 1):
                self.assertTrue(e.equations_within(many, e.equations_forgotten(many, one, k), e.equations_forgotten(many, wider, k)))
                self.assertTrue(e.equations_within(many, e.equations_set(many, one, k, form), e.equations_set(many, wider, k, form)))

    def test_rows_of_joinings(self):
        for _ in range(60):
            many = self.drawn.randint(0, 5)
            one, changes = None, 0
            for _ in range(20):
                other = self.drawn.choice((drawn_equations(self.drawn, many), point_equations(tuple(self.drawn.randint(-3, 3) for _ in range(many)))))
                joined = e.equations_joined(many, one, other)
                if joined != one:
                    changes += 1
                    self.assertLess(e.equations_rank(many, joined), e.equations_rank(many, one))
                one = joined
            self.assertLessEqual(changes, many + 1)
        self.assertEqual([e.equations_rank(many, None) for many in (0, 1, 4, 20)], [1, 2, 5, 21])

    def test_by_hand(self):
        line = ((1, 2, 0, 3),)
        # v_1 + 2 v_2 = 3.
        self.assertEqual(e.equations_set(3, line, 1, (2, 0, 0, 1)), ((1, 4, 0, 7),))
        self.assertEqual(e.equations_set(3, line, 1, (-1, 0, 0, 0)), ((1, -2, 0, -3),))
        self.assertEqual(e.equations_set(3, line, 3, (1, 2, 0, 5)), ((1, 2, 0, 3), (0, 0, 1, 8)))
        self.assertEqual(e.equations_set(3, line, 2, (0, 0, 0, 4)), ((0, 1, 0, 4),))
        self.assertEqual(e.equations_set(3, line, 2, (1, 0, 0, 0)), ((1, -1, 0, 0),))
        self.assertEqual(e.equations_set(3, line, 2, (1, 3, 0, 0)), ((1, 2, 0, 9),))
        self.assertEqual(e.equations_set(3, (), 2, (0, 2, 0, 1)), ())
        self.assertEqual(e.equations_set(3, None, 2, (0, 2, 0, 1)), None)
        both = ((1, 0, -1, 2), (0, 1, -3, 5))
        self.assertEqual(e.equations_forgotten(3, both, 3), ((3, -1, 0, 1),))
        self.assertEqual(e.equations_forgotten(3, both, 1), ((0, 1, -3, 5),))
        self.assertEqual(e.equations_kept(3, both, (3, 1)), ((1, -1, -2),))
        self.assertEqual(e.equations_kept(3, both, (2, None, 3)), ((1, 0, -3, 5),))
        self.assertEqual(e.equations_kept(3, both, (None,)), ())
        self.assertEqual(e.equations_kept(3, both, ()), ())
        self.assertEqual(e.equations_kept(3, both, (1, 2)), ((3, -1, 1),))
        self.assertEqual(e.equations_kept(3, ((2, 0, 0, 1),), (None, 1)), ((0, 2, 1),))
        self.assertEqual(e.equations_kept(0, (), (None, None)), ())
        self.assertEqual(e.equations_kept(3, None, (1,)), None)
        self.assertEqual([e.form_value(3, both, form) for form in ((3, -1, 0, 0), (3, -1, 0, -1), (1, 1, 1, 0), (0, 0, 0, -9), (6, -2, 0, 1))],
                         [(1, 1), (0, 1), None, (-9, 1), (3, 1)])
        self.assertEqual([e.form_value(1, ((3, 2),), (a, c)) for a, c in ((1, 0), (-1, 1), (3, 1), (6, -4))], [(2, 3), (1, 3), (3, 1), (0, 1)])
        self.assertEqual(e.form_value(0, (), (4,)), (4, 1))
        self.assertEqual(e.equations_guarded(3, both, (3, -1, 0, 0)), None)
        self.assertEqual(e.equations_guarded(3, both, (3, -1, 0, -1)), both)
        self.assertEqual(e.equations_guarded(3, both, (0, 0, 1, -4)), ((1, 0, 0, 6), (0, 1, 0, 17), (0, 0, 1, 4)))
        self.assertEqual([e.equations_keep(3, both, row) for row in ((3, -1, 0, 1), (3, -1, 0, 0), (0, 0, 0, 0), (2, 1, -5, 9), (0, 0, 1, 0))], [True, False, True, True, False])
        self.assertTrue(e.equations_keep(3, None, (0, 0, 0, 1)))
        self.assertEqual([e.equations_hold(3, rows, (2, 5, 0)) for rows in (both, line, (), None)], [True, False, True, False])
        self.assertFalse(e.equations_hold(1, ((2, 1),), (0,)))


class Exchange(unittest.TestCase):
    def setUp(self):
        self.drawn = random.Random(1103)

    def test_the_least_equations_of_all_values(self):
        fixed = 0
        for _ in range(120):
            many = self.drawn.randint(0, 3)
            one = tuple(tuple(0 if i == j else self.drawn.choice((None, -1, 0, 0, 1, 2)) for j in range(many + 1)) for i in range(many + 1))
            least = None
            for values in itertools.product(range(-7, 8), repeat=many):
                if d.differences_hold(many, one, values):
                    least = e.equations_joined(many, least, point_equations(values))
            self.assertEqual(e.equations_of(many, one), least)
            fixed += bool(least)
        self.assertGreater(fixed, 20)

    def test_the_differences_of_all_values(self):
        seen = set()
        for _ in range(250):
            many = self.drawn.randint(0, 3)
            one = drawn_equations(self.drawn, many, 2)
            held = [values for values in itertools.product(range(-9, 10), repeat=many) if e.equations_hold(many, one, values)]
            found = e.differences_of(many, one)
            self.assertTrue(d.is_differences(many, found))
            self.assertEqual(d.closed_differences(many, found), found)
            for values in held:
                self.assertTrue(d.differences_hold(many, found, values))
            if len(held) > 1:
                for i, j in itertools.permutations(range(many + 1), 2):
                    apart = {((0,) + values)[i] - ((0,) + values)[j] for values in held}
                    if found[i][j] is not None:
                        self.assertEqual(apart, {found[i][j]})
                        self.assertEqual(found[j][i], -found[i][j])
                        seen.add("fixed")
                    elif len(apart) == 1:
                        # One number within the box alone: the values go on beyond it.
                        self.assertIsNone(e.form_value(many, one, tuple((k == i - 1) - (k == j - 1) for k in range(many)) + (0,)))
            if found is None:
                self.assertEqual(held, [])
                seen.add("none")
        self.assertEqual(seen, {"fixed", "none"})

    def test_there_and_back(self):
        for _ in range(200):
            many = self.drawn.choice((0, 1, 2, 3, 4, 20))
            one = tuple(tuple(0 if i == j else self.drawn.choice((None, None, -1, 0, 0, 1) if many < 5 else (None,) * 30 + (0, 3)) for j in range(many + 1)) for i in range(many + 1))
            told = e.equations_of(many, one)
            back = e.differences_of(many, told)
            self.assertTrue(d.differences_within(many, one, back))
            self.assertEqual(e.equations_of(many, back), told)
            rows = drawn_equations(self.drawn, many, 3)
            fixed = e.differences_of(many, rows)
            self.assertEqual(e.differences_of(many, e.equations_of(many, fixed)), fixed)
            if fixed is not None:
                self.assertTrue(e.equations_within(many, rows, e.equations_of(many, fixed)))

    def test_by_hand(self):
        self.assertIsNone(e.equations_of(2, None))
        self.assertIsNone(e.equations_of(1, ((0, -1), (0, 0))))
        self.assertEqual(e.equations_of(0, ((0,),)), ())
        # Fixed by the closing alone: v_1 up to v_2, v_2 up to v_3, v_3 up to v_1.
        ring = ((0, None, None, None), (None, 0, 0, None), (None, None, 0, 0), (None, 0, None, 0))
        self.assertEqual(e.equations_of(3, ring), ((1, 0, -1, 0), (0, 1, -1, 0)))
        self.assertEqual(rank(e.equations_of(3, ring)), 2)
        self.assertEqual(e.differences_of(3, ((1, 0, -1, 0), (0, 1, -1, 0))), ((0, None, None, None), (None, 0, 0, 0), (None, 0, 0, 0), (None, 0, 0, 0)))
        self.assertEqual(e.differences_of(2, ((1, 0, 2), (0, 1, 1))), ((0, -2, -1), (2, 0, 1), (1, -1, 0)))
        self.assertEqual(e.differences_of(2, ((1, 1, 0),)), ((0, None, None), (None, 0, None), (None, None, 0)))
        # v_1 is one half: no values.
        self.assertIsNone(e.differences_of(2, ((2, 0, 1),)))
        # Apart by a third.
        self.assertIsNone(e.differences_of(2, ((3, -3, 1),)))
        # No values, but no difference tells it.
        self.assertEqual(e.differences_of(2, ((2, 4, 1),)), ((0, None, None), (None, 0, None), (None, None, 0)))


if __name__ == "__main__":
    unittest.main()
