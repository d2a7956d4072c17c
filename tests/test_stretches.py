"""[C1] to [C6]: stretches, held against the numbers themselves."""

import unittest

from soundlooks import stretches
from soundlooks.errors import InvalidGuard, InvalidMarks, InvalidNumber, InvalidStretch, InvalidWidth
from tests.refusing import ODD, UNASKED, asked_in_order, given_wrongs, index_wrongs

ENDS = (None,) + tuple(range(-4, 5))
SMALL = [()] + [(a, b) for a in ENDS for b in ENDS if a is None or b is None or a <= b]
# How far numbers are looked at where a stretch has no bound, once and once more.
FAR, FARTHER = 17, 26
GUARDS = ("<", "<=", "==", "!=")


def held(stretch, far):
    """The numbers of a stretch up to so far from 0."""
    if stretch == ():
        return []
    low, high = stretch
    return list(range(-far if low is None else low, (far if high is None else high) + 1))


NEAR = {stretch: held(stretch, FAR) for stretch in SMALL}
WIDE = {stretch: held(stretch, FARTHER) for stretch in SMALL}


def least(near, wide):
    """The least stretch of numbers, told by those found near and those found farther: an end that moves has no bound."""
    if not near:
        return ()
    low, high = min(near), max(near)
    return (low if min(wide) == low else None, high if max(wide) == high else None)


def div(x, y):
    return (x - x % y) // y


class Holding(unittest.TestCase):
    def test_is_stretch(self):
        for value in SMALL + [(-10 ** 60, 10 ** 60), (10 ** 60, None)]:
            self.assertTrue(stretches.is_stretch(value), value)
        for value in ODD + (None, 0, (1,), (1, 2, 3), (2, 1), (1, True), (False, 1), (None, "1"), [1, 2], (1, (2,)), ((), ()),
                            (UNASKED, 1), (1, UNASKED), (0, -1), (None, None, None), (None,)):
            self.assertIs(stretches.is_stretch(value), False)

    def test_holds(self):
        for stretch in SMALL:
            for number in range(-6, 7):
                self.assertIs(stretches.stretch_holds(stretch, number), number in NEAR[stretch])
        self.assertTrue(stretches.stretch_holds((None, 3), -10 ** 70))
        self.assertFalse(stretches.stretch_holds((10 ** 70, None), 10 ** 70 - 1))

    def test_within_joined_met(self):
        for one in SMALL:
            for two in SMALL:
                self.assertIs(stretches.stretch_within(one, two), set(WIDE[one]) <= set(WIDE[two]))
                joined = stretches.stretch_joined(one, two)
                self.assertEqual(joined, least(NEAR[one] + NEAR[two], WIDE[one] + WIDE[two]))
                met = stretches.stretch_met(one, two)
                self.assertEqual(held(met, FARTHER), [n for n in WIDE[one] if n in WIDE[two]])
                self.assertTrue(stretches.is_stretch(met))


class Reckoning(unittest.TestCase):
    def asked(self, call, operation, is_least=True):
        for one in SMALL:
            for two in SMALL:
                near = {operation(x, y) for x in NEAR[one] for y in NEAR[two]} - {None}
                wide = {operation(x, y) for x in WIDE[one] for y in WIDE[two]} - {None}
                found = call(one, two)
                if is_least:
                    self.assertEqual(found, least(near, wide), (one, two))
                self.assertTrue(all(stretches.stretch_holds(found, number) for number in wide), (one, two))
                self.assertEqual(found == (), not wide)

    def test_back(self):
        for one in SMALL:
            self.assertEqual(stretches.stretch_back(one), least([-n for n in NEAR[one]], [-n for n in WIDE[one]]))

    def test_sum(self):
        self.asked(stretches.stretch_sum, lambda x, y: x + y)

    def test_product(self):
        self.asked(stretches.stretch_product, lambda x, y: x * y)

    def test_quotient(self):
        self.asked(stretches.stretch_quotient, lambda x, y: None if y == 0 else div(x, y))

    def test_modulo_holds(self):
        self.asked(stretches.stretch_modulo, lambda x, y: None if y == 0 else x % y, False)

    def test_modulo_by_one_number_is_the_least(self):
        for one in SMALL + [(a, a + by) for a in range(-20, 20) for by in range(9)]:
            for y in (-7, -5, -4, -3, -2, -1, 1, 2, 3, 4, 5, 7):
                near = [x % y for x in held(one, 30)]
                self.assertEqual(stretches.stretch_modulo(one, (y, y)), least(near, near))

    def test_modulo_by_several(self):
        def by_above(a, b, c, d):
            if a is not None and a >= 0 and b is not None and b < c:
                return (a, b)
            told = [end for end in (None if d is None else d - 1, b if a is not None and a >= 0 else None) if end is not None]
            return (0, min(told) if told else None)

        for one in SMALL[1:]:
            for c in range(1, 5):
                for d in [None] + list(range(c + 1, 8)):
                    told = by_above(one[0], one[1], c, d)
                    self.assertEqual(stretches.stretch_modulo(one, (c, d)), told)
                    back = stretches.stretch_back(one)
                    below = stretches.stretch_back(by_above(back[0], back[1], c, d))
                    self.assertEqual(stretches.stretch_modulo(one, (None if d is None else -d, -c)), below)
                    for low in (-3, -1, None):
                        other = stretches.stretch_modulo(one, (low, -1))
                        alike = stretches.stretch_modulo(one, (1, d))
                        self.assertEqual(stretches.stretch_modulo(one, (low, d)), stretches.stretch_joined(alike, other))
                        self.assertEqual(stretches.stretch_modulo(one, (low, 0)), other)
                        self.assertEqual(stretches.stretch_modulo(one, (0, d)), alike)
            self.assertEqual(stretches.stretch_modulo(one, (0, 0)), ())
            self.assertEqual(stretches.stretch_quotient(one, (0, 0)), ())

    def test_great_numbers(self):
        far = 10 ** 60
        self.assertEqual(stretches.stretch_product((-far, far), (-far, far)), (-far * far, far * far))
        self.assertEqual(stretches.stretch_quotient((-far, far), (7, None)), (div(-far, 7), far // 7))
        self.assertEqual(stretches.stretch_quotient((-far, far), (None, None)), (-far, far))
        self.assertEqual(stretches.stretch_modulo((far, far + 1), (10, 10)), (0, 1))

    def test_wrapped(self):
        for width in (1, 2, 8, 16):
            size = 2 ** width
            for low, high, expected in (
                (0, size - 1, (0, size - 1)), (0, size, (0, size - 1)), (-1, 0, (0, size - 1)), (size, size, (0, 0)),
                (size, size + 1, (0, 1)), (-1, -1, (size - 1, size - 1)), (-size, -1, (0, size - 1)), (-size, -size, (0, 0)),
                (1, 1, (1, 1)), (size - 1, size, (0, size - 1)), (None, 0, (0, size - 1)), (5, None, (0, size - 1)),
                (None, None, (0, size - 1)), (3 * size + 1, 4 * size - 1, (1, size - 1)),
            ):
                self.assertEqual(stretches.stretch_wrapped((low, high), width), expected)
            self.assertEqual(stretches.stretch_wrapped((), width), ())

    def test_guarded(self):
        so = {"<": lambda x, y: x < y, "<=": lambda x, y: x <= y, "==": lambda x, y: x == y, "!=": lambda x, y: x != y}
        for guard in GUARDS:
            for one in SMALL:
                for two in SMALL:
                    found = []
                    for near in (NEAR, WIDE):
                        # Beside numbers that are told up to an edge there are further ones for the other side.
                        edge = 1 if near is NEAR else 2
                        x_of = [x for x in near[one] if any(so[guard](x, y) for y in held(two, 9 * edge))]
                        y_of = [y for y in near[two] if any(so[guard](x, y) for x in held(one, 9 * edge))]
                        found.append((x_of, y_of))
                    (near_x, near_y), (wide_x, wide_y) = found
                    expected = (least(near_x, wide_x), least(near_y, wide_y))
                    self.assertEqual(stretches.stretch_guarded(guard, one, two), expected, (guard, one, two))


class Widening(unittest.TestCase):
    marks = ((), (0,), (-2, 1, 3), (-4, -3, -2, -1, 0, 1, 2, 3, 4), (-9, 9))

    def test_widened(self):
        for marks in self.marks:
            for one in SMALL:
                for two in SMALL:
                    found = stretches.stretch_widened(marks, one, two)
                    if set(WIDE[two]) <= set(WIDE[one]):
                        self.assertEqual(found, one)
                        continue
                    self.assertLess(stretches.stretch_rank(marks, found), stretches.stretch_rank(marks, one))
                    if one == ():
                        self.assertEqual(found, two)
                        continue
                    low, high = one
                    if min(WIDE[two]) < min(WIDE[one]):
                        told = [mark for mark in marks if two[0] is not None and mark <= two[0]]
                        low = told[-1] if told else None
                    if max(WIDE[two]) > max(WIDE[one]):
                        told = [mark for mark in marks if two[1] is not None and mark >= two[1]]
                        high = told[0] if told else None
                    self.assertEqual(found, (low, high))
                    self.assertTrue(set(WIDE[one]) | set(WIDE[two]) <= set(held(found, FARTHER)))

    def test_rank(self):
        for marks in self.marks:
            self.assertEqual(stretches.stretch_rank(marks, ()), 2 * len(marks) + 3)
            for low, high in SMALL[1:]:
                below = 0 if low is None else 1 + sum(mark < low for mark in marks)
                above = 0 if high is None else 1 + sum(mark > high for mark in marks)
                self.assertEqual(stretches.stretch_rank(marks, (low, high)), below + above)

    def test_a_row_of_widenings_ends(self):
        for marks in self.marks:
            for step in (-3, -1, 1, 2):
                stretch, changes = (), 0
                for at in range(60):
                    further = stretches.stretch_widened(marks, stretch, (step * at, step * at))
                    changes += further != stretch
                    stretch = further
                self.assertLessEqual(changes, 2 * len(marks) + 3)
                self.assertIn(stretch, ((0, None), (None, 0), (None, None)))
        self.assertEqual(stretches.stretch_widened((10 ** 50,), (0, 1), (0, 10 ** 49)), (0, 10 ** 50))


class Refusals(unittest.TestCase):
    wrong = (None, 0, (1,), (2, 1), (1, True), (1, "2"), (1, 2, 3), (UNASKED, None)) + ODD
    stretch = given_wrongs(InvalidStretch, *wrong)
    marks = index_wrongs(
        InvalidMarks, *[(value, None) for value in (None, 0) + ODD], ((1, True), 1), ((None,), 0), ((0, 0), 1), ((0, 2, 1), 2),
        ((2, 1, None), 1), (("a", 0), 0), ((3, UNASKED), 1), ((0, 1, (2,)), 2))
    guard = given_wrongs(InvalidGuard, None, 0, (), ">", ">=", "=", "not", ("<",), "<<", "", *ODD)
    width = given_wrongs(InvalidWidth, None, 0, 17, -1, (), (1,), 10 ** 30, *ODD)
    number = given_wrongs(InvalidNumber, None, (), (1,), *ODD)

    def asked(self, names, right):
        told = {"other": self.stretch, "number": self.number, "stretch": self.stretch, "marks": self.marks,
                "guard": self.guard, "width": self.width}
        for name in names.split():
            asked_in_order(self, getattr(stretches, "stretch_" + name), right, {key: told[key] for key in right})

    def test_refusals(self):
        self.asked("holds", {"stretch": (1, None), "number": 4})
        self.asked("within joined met sum product quotient modulo", {"stretch": (1, None), "other": (None, 3)})
        self.asked("back", {"stretch": (1, 5)})
        self.asked("wrapped", {"stretch": (1, 5), "width": 16})
        self.asked("guarded", {"guard": "!=", "stretch": (1, None), "other": (None, 3)})
        self.asked("widened", {"marks": (-1, 4), "stretch": (1, None), "other": (None, 3)})
        self.asked("rank", {"marks": (), "stretch": (1, 5)})


if __name__ == "__main__":
    unittest.main()
