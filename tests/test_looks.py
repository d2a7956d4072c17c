"""[E1] to [E4]: sights and looks, held against the values that they hold, and exchange."""

import itertools
import random
import unittest

from soundlooks import looks
from soundlooks.differences import closed_differences
from soundlooks.equations import equations_from
from soundlooks.errors import InvalidIndex, InvalidLook, InvalidMarks, InvalidProgram, InvalidSight, InvalidValues
from soundlooks.rests import settled
from tests import reference
from tests.helper import NUM, RICH
from tests.refusing import ODD, UNASKED, asked_in_order, given_wrongs, index_wrongs

SIGHT = ((("n", NUM), ("i", ("word", 4))), (("r", ("row", 2)),))
FREE = (((None, None), (None, None)), ((0, 1), (0, 1)), ((0, None, None), (None, 0, None), (None, None, 0)), (), (((None, None), (0, 1)),))
MARKS = ((), (0,), (-3, 0, 2, 9))


class LookDrawer:
    """Draws sights and looks."""

    def __init__(self, seed):
        self.random = random.Random(seed)

    def sight(self, most=3):
        kinds = (NUM, NUM, ("word", 2), ("word", 4))
        names = tuple((name, self.random.choice(kinds)) for name in ("a", "b", "c", "d")[:self.random.randint(0, most)])
        rows = tuple((name, ("row", self.random.randint(1, 2))) for name in ("r", "s")[:self.random.randint(0, 2)])
        return names, rows

    def stretch(self):
        low, high = sorted((self.random.randint(-6, 6), self.random.randint(-6, 9)))
        return self.random.choice(((None, None), (low, high), (low, high), (0, high + 6), (low, None), (None, high), (high, high)))

    def rest(self):
        m = self.random.choice((1, 1, 1, 2, 3, 4, 6))
        return self.random.choice(((self.random.randrange(m), m), (self.random.randrange(m), m), (self.random.randint(-3, 3), 0)))

    def differences(self, n):
        bounds = (None, None, None, None, -1, 0, 1, 3, 6)
        return tuple(tuple(0 if i == j else self.random.choice(bounds) for j in range(n + 1)) for i in range(n + 1))

    def equations(self, n):
        rows = tuple(tuple(self.random.choice((0, 0, 1, -1, 2, 3)) for _ in range(n + 1)) for _ in range(self.random.choice((0, 0, 1, 1, 2))))
        return equations_from(n, rows) or ()

    def look(self, sight):
        n, m = len(sight[0]), len(sight[1])
        if self.random.random() < 0.05:
            return None
        rests = ((0, 1),) * n if self.random.random() < 0.5 else tuple(self.rest() for _ in range(n))
        cells = tuple((self.stretch(), (0, 1) if self.random.random() < 0.7 else self.rest()) for _ in range(m))
        differences = self.differences(n) if self.random.random() < 0.6 else reference.d.free_differences(n)
        return tuple(self.stretch() for _ in range(n)), rests, differences, self.equations(n), cells

    def values(self, sight, look):
        """Some values, those of a look where some are found."""
        for _ in range(40):
            numbers = tuple(self.random.randint(-6, 9) for _ in sight[0])
            cells = tuple(tuple(self.random.randint(-6, 9) for _ in range(kind[1])) for _, kind in sight[1])
            if is_held(look, numbers, cells):
                break
        return numbers, cells


def is_held(look, numbers, cells):
    """Whether a look holds values, each part by itself."""
    if look is None:
        return False
    told = (0,) + numbers
    for (low, high), (r, m), number in list(zip(look[0], look[1], numbers)) + [
            (pair[0], pair[1], number) for pair, row in zip(look[4], cells) for number in row]:
        if low is not None and number < low or high is not None and number > high or number != (number - r if m == 0 else (number - r) // m * m) + r:
            return False
        if m == 0 and number != r:
            return False
    for i, j in itertools.product(range(len(told)), repeat=2):
        if look[2][i][j] is not None and told[i] - told[j] > look[2][i][j]:
            return False
    return all(sum(a * v for a, v in zip(row, numbers)) == row[-1] for row in look[3])


class Sights(unittest.TestCase):
    def test_sights(self):
        self.assertEqual(looks.sight_of(RICH, 0), ((("g", NUM), ("w", ("word", 4)), ("i", NUM)), (("r", ("row", 3)), ("s", ("row", 8)))))
        self.assertEqual(looks.sight_of(RICH, 1)[0][2:], (("a", NUM), ("b", ("word", 16)), ("c", ("word", 1))))
        self.assertEqual(looks.end_sight(RICH), ((("g", NUM), ("w", ("word", 4)), ("given", NUM)), (("r", ("row", 3)),)))
        self.assertEqual(looks.end_sight(((), (("p", (), (), ()),))), ((("given", NUM),), ()))

    def test_free(self):
        self.assertEqual(looks.free_look(SIGHT), FREE)
        self.assertEqual(looks.free_look(((), ())), ((), (), ((0,),), (), ()))

    def test_is_look(self):
        right = (((0, 3), (None, 1)), ((1, 4), (-7, 0)), ((0, None, 1), (-9, 0, 2), (None, -1, 0)), ((2, 0, 1), (0, 1, 5)), (((0, 0), (5, 0)),))
        self.assertTrue(looks.is_look(SIGHT, right) and looks.is_look(SIGHT, None) and looks.is_look(SIGHT, FREE))
        self.assertTrue(looks.is_look(((), ()), ((), (), ((0,),), (), ())))
        for value in ODD + (0, (), right[:4], right + ((),), list(right), UNASKED, (UNASKED,) * 5):
            self.assertIs(looks.is_look(SIGHT, value), False)
        for at, parts in enumerate((
            ((), ((0, 3),), ((0, 3), ()), ((0, 3), (2, 1)), ((0, 3),) * 3, [(0, 3), (0, 3)], None, ((0, 3), None), ((0, True), (0, 3))),
            ((), ((0, 1),), ((0, 1), ()), ((0, 1), (0, 11)), ((0, 1),) * 3, None, ((4, 4), (0, 1))),
            (None, (), ((0,),), right[2][:2], ((1, 0, 0), (0, 0, 0), (0, 0, 0)), ((0, 0, 0), (0, 0, 0), (0, "0", 0))),
            (None, ((2, 4, 6),), ((1, 2),), ((0, 1, 0), (1, 0, 0)), [], ((0, 0, 1),)),
            ((), None, ((0, 0), (0, 0)), (((0, 0),),), (((), (0, 0)),), (((0, 0), ()),), (((0, 0), (0, 0)),) * 2, (((1, 0), (0, 0)),),
             (((0, 0), (0, 0), 0),), ([(0, 0), (0, 0)],), (UNASKED,), (((0, 0), (0, 11)),), (((0, 0), (4, 4)),), (((0, 0), None),), (((0, 0), (0, True)),),
             (((0, 0), UNASKED),), ((UNASKED, (0, 0)),), ((None, (0, 0)),)),
        )):
            for wrong in parts:
                self.assertIs(looks.is_look(SIGHT, right[:at] + (wrong,) + right[at + 1:]), False, wrong)

    def test_the_greatest_sight(self):
        names = tuple(("a" + str(at), NUM) for at in range(20))
        rows = tuple(("r" + str(at), ("row", 8)) for at in range(4))
        free = looks.free_look((names, rows))
        self.assertEqual([len(part) for part in free], [20, 20, 21, 0, 4])
        self.assertEqual(looks.exchanged((names, rows), free), free)

    def test_names_are_counted_by_the_sight(self):
        self.assertFalse(looks.is_look(((("n", NUM),), ()), FREE))
        self.assertTrue(looks.is_look(((("given", NUM), ("n", NUM)), (("n2", ("row", 5)),)), FREE))


class Drawn(unittest.TestCase):
    def setUp(self):
        self.drawer = LookDrawer(12)

    def test_holds(self):
        found = set()
        for _ in range(600):
            sight = self.drawer.sight()
            look = self.drawer.look(sight)
            numbers, cells = self.drawer.values(sight, look)
            held = is_held(look, numbers, cells)
            self.assertIs(looks.look_holds(sight, look, numbers, cells), held)
            found.add(held)
        self.assertEqual(found, {True, False})

    def test_within_joined_met_widened(self):
        many = 0
        for _ in range(600):
            sight, marks = self.drawer.sight(), self.drawer.random.choice(MARKS)
            one, other = self.drawer.look(sight), self.drawer.look(sight)
            joined, met = looks.look_joined(sight, one, other), looks.look_met(sight, one, other)
            wide = looks.look_widened(sight, marks, one, other)
            for look in (joined, met, wide):
                self.assertTrue(looks.is_look(sight, look))
            for look in (one, other):
                numbers, cells = self.drawer.values(sight, look)
                of_one, of_other = is_held(one, numbers, cells), is_held(other, numbers, cells)
                many += of_one or of_other
                if of_one or of_other:
                    self.assertTrue(is_held(joined, numbers, cells) and is_held(wide, numbers, cells))
                self.assertIs(is_held(met, numbers, cells), of_one and of_other)
                if looks.look_within(sight, one, other) and of_one:
                    self.assertTrue(of_other)
            self.assertTrue(looks.look_within(sight, met, one) and looks.look_within(sight, met, other))
            self.assertTrue(looks.look_within(sight, other, wide))
            rank = looks.look_rank(sight, marks, one)
            if not looks.look_within(sight, other, one):
                self.assertLess(looks.look_rank(sight, marks, wide), rank)
            self.assertLessEqual(rank, looks.look_rank(sight, marks, None))
        self.assertGreater(many, 300)

    def test_none(self):
        one = FREE
        for look in (None, one):
            self.assertEqual(looks.look_joined(SIGHT, None, look), look)
            self.assertEqual(looks.look_joined(SIGHT, look, None), look)
            self.assertEqual(looks.look_met(SIGHT, None, look), None)
            self.assertEqual(looks.look_met(SIGHT, look, None), None)
            self.assertEqual(looks.look_widened(SIGHT, (), None, look), look)
            self.assertEqual(looks.look_widened(SIGHT, (), look, None), look)
            self.assertTrue(looks.look_within(SIGHT, None, look))
        self.assertFalse(looks.look_within(SIGHT, one, None))
        self.assertEqual(looks.exchanged(SIGHT, None), None)
        self.assertEqual(looks.look_rank(SIGHT, (1, 2, 7), None), (2 + 1) * (2 * 3 + 15) + 2 * 3 * (3 + 2) + 2 + 3)
        self.assertEqual(looks.look_rank(((), ()), (1, 2, 7), None), 3)
        ring = one[:2] + (((0, -1, None), (0, 0, None), (None, None, 0)),) + one[3:]
        self.assertEqual(looks.look_joined(SIGHT, ring, ring), None)
        self.assertEqual(looks.look_joined(SIGHT, ring, one), one)
        self.assertTrue(looks.look_within(SIGHT, ring, one))

    def test_exchanged(self):
        empty = 0
        for _ in range(1500):
            sight = self.drawer.sight()
            look = self.drawer.look(sight)
            found = looks.exchanged(sight, look)
            self.assertEqual(found, reference.exchanged(look), (sight, look))
            self.assertTrue(looks.is_look(sight, found))
            self.assertTrue(looks.look_within(sight, found, look))
            numbers, cells = self.drawer.values(sight, look)
            self.assertIs(is_held(found, numbers, cells), is_held(look, numbers, cells))
            empty += found is None
            if found is not None:
                self.assertEqual(found[3], look[3])
                self.assertEqual(closed_differences(len(sight[0]), found[2]), found[2])
                for pair in tuple(zip(found[0], found[1])) + found[4]:
                    self.assertEqual(settled(*pair), pair)
        self.assertGreater(empty, 100)
        self.assertLess(empty, 1200)


class Refusals(unittest.TestCase):
    programs = [(((), None), InvalidProgram, {"place": (1,)})]
    index = given_wrongs(InvalidIndex, None, -1, 2, (), *ODD)
    names, rows = SIGHT
    sight = given_wrongs(
        InvalidSight, None, 0, (), (names,), (names, rows, ()), (list(names), rows), (names, list(rows)), (rows, names), (names, rows + rows), (names + names, rows),
        (names, (("n", ("row", 1)),)), ((("n", ("word", 17)),), ()), ((("num", NUM),), ()), ((("n",),), ()), (((NUM, "n"),), ()), ((("n", None),), ()),
        (tuple(("a" + str(at), NUM) for at in range(21)), ()), ((), tuple(("a" + str(at), ("row", 1)) for at in range(5))), ((), (("given", ("row", 1)),)),
        ((("given", NUM), ("given", NUM)), ()), (UNASKED, ()), ((UNASKED,), ()), (((UNASKED, NUM),), ()), ((("n", UNASKED),), ()), *ODD)
    look = given_wrongs(InvalidLook, 0, (), FREE[:4], FREE[:3] + (None, FREE[4]), list(FREE), *ODD)
    marks = index_wrongs(InvalidMarks, (None, None), ([0], None), ((0, 0), 1), ((True,), 0))
    numbers = index_wrongs(InvalidValues, (None, None), ((1,), None), ([1, 2], None), ((1, True), 1), ((None, True), 0), ((1, UNASKED), 1))
    cells = index_wrongs(InvalidValues, (None, None), ((), None), (((1, 2), (1, 2)), None), (((1, 2, 3),), 0), (((1, True),), 0), ((None,), 0), (([1, 2],), 0))

    def asked(self, names, **right):
        told = {"sight": self.sight, "look": self.look, "other": self.look, "marks": self.marks, "numbers": self.numbers, "cells": self.cells,
                "program": self.programs, "index": self.index}
        for name in names.split():
            asked_in_order(self, getattr(looks, name), right, {key: told[key] for key in right if key != "value"})

    def test_refusals(self):
        self.asked("sight_of", program=RICH, index=1)
        self.asked("end_sight", program=RICH)
        self.asked("is_look", sight=SIGHT, value=FREE)
        self.asked("free_look", sight=SIGHT)
        self.asked("look_holds", sight=SIGHT, look=FREE, numbers=(1, 2), cells=((3, 4),))
        self.asked("look_within look_joined look_met", sight=SIGHT, look=FREE, other=FREE)
        self.asked("look_widened", sight=SIGHT, marks=(1, 2), look=FREE, other=FREE)
        self.asked("look_rank", sight=SIGHT, marks=(1, 2), look=FREE)
        self.asked("exchanged", sight=SIGHT, look=FREE)


if __name__ == "__main__":
    unittest.main()
