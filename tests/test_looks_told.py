"""[E1] to [E4] once more: looks part by part, rows of widenings, and each round of exchange by hand."""

import itertools
import unittest

from soundlooks import differences as d
from soundlooks import equations as e
from soundlooks import looks, rests, stretches
from soundlooks.text import read
from tests.test_looks import LookDrawer, is_held

TWO = ((("a", ("num",)), ("b", ("word", 3))), ())
ONE = ((("a", ("num",)),), ())
ANY, ALL = (None, None), (0, 1)


def gaps(*rows):
    return tuple(rows)


def free_gaps(n):
    return d.free_differences(n)


class Sights(unittest.TestCase):
    def test_words_rows_and_names_of_other_procedures(self):
        program = read("row 1 r; num b; word 2 a; proc b2() { row 3 x; num c; } proc f(word 16 n, num m) { word 1 c; row 8 z; num d; }")
        self.assertEqual(looks.sight_of(program, 0), ((("b", ("num",)), ("a", ("word", 2)), ("c", ("num",))), (("r", ("row", 1)), ("x", ("row", 3)))))
        self.assertEqual(looks.sight_of(program, index=1), (
            (("b", ("num",)), ("a", ("word", 2)), ("n", ("word", 16)), ("m", ("num",)), ("c", ("word", 1)), ("d", ("num",))), (("r", ("row", 1)), ("z", ("row", 8)))))
        self.assertEqual(looks.end_sight(program), ((("b", ("num",)), ("a", ("word", 2)), ("given", ("num",))), (("r", ("row", 1)),)))


class Parts(unittest.TestCase):
    def setUp(self):
        self.drawer = LookDrawer(1201)

    def drawn(self, times):
        for _ in range(times):
            sight = self.drawer.sight()
            yield sight, len(sight[0]), self.drawer.look(sight), self.drawer.look(sight)

    def test_each_part_by_itself(self):
        marks = (-4, -1, 0, 1, 5)
        for sight, n, one, other in self.drawn(500):
            if one is None or other is None:
                continue
            pairs = list(zip(one[0] + tuple(p[0] for p in one[4]), other[0] + tuple(p[0] for p in other[4])))
            leaving = list(zip(one[1] + tuple(p[1] for p in one[4]), other[1] + tuple(p[1] for p in other[4])))
            for name, call, rest_call, gap_call, row_call in (
                ("joined", stretches.stretch_joined, rests.rest_joined, d.differences_joined, e.equations_joined),
                ("met", stretches.stretch_met, rests.rest_met, d.differences_met, e.equations_met),
                ("widened", lambda x, y: stretches.stretch_widened(marks, x, y), rests.rest_joined,
                 lambda many, x, y: d.differences_widened(many, marks, x, y), e.equations_joined),
            ):
                told = [call(*pair) for pair in pairs], [rest_call(*pair) for pair in leaving]
                expected = None
                differences, equations = gap_call(n, one[2], other[2]), row_call(n, one[3], other[3])
                if () not in told[0] and () not in told[1] and differences is not None and equations is not None:
                    expected = (tuple(told[0][:n]), tuple(told[1][:n]), differences, equations, tuple(zip(told[0][n:], told[1][n:])))
                given = (sight, marks, one, other) if name == "widened" else (sight, one, other)
                self.assertEqual(getattr(looks, "look_" + name)(*given), expected)
            within = all(stretches.stretch_within(*pair) for pair in pairs) and all(rests.rest_within(*pair) for pair in leaving)
            within = within and d.differences_within(n, one[2], other[2]) and e.equations_within(n, one[3], other[3])
            self.assertIs(looks.look_within(sight, one, other), within)

    def test_within_itself_and_what_it_is_joined_to(self):
        for sight, _, one, other in self.drawn(300):
            self.assertIs(looks.look_within(sight, one, one), True)
            self.assertIs(looks.look_within(sight, one, looks.free_look(sight)), True)
            joined = looks.look_joined(sight, one, other)
            if joined is not None and one is not None and other is not None and None not in (
                    d.closed_differences(len(sight[0]), one[2]), d.closed_differences(len(sight[0]), other[2])):
                self.assertIs(looks.look_within(sight, one, joined), True)
                self.assertIs(looks.look_within(sight, other, joined), True)
            self.assertIs(looks.look_within(sight, other, looks.look_widened(sight, (0,), one, other)), True)

    def test_the_rank_part_by_part(self):
        for marks in ((), (0,), (-2, 0, 3, 9)):
            for sight, n, one, _ in self.drawn(120):
                if one is None:
                    k, m = len(marks), len(sight[1])
                    self.assertEqual(looks.look_rank(sight, marks, None), (n + m) * (2 * k + 15) + n * (n + 1) * (k + 2) + n + 3)
                    continue
                rank = d.differences_rank(n, marks, one[2]) + e.equations_rank(n, one[3])
                for stretch, rest in tuple(zip(one[0], one[1])) + one[4]:
                    rank += stretches.stretch_rank(marks, stretch) + rests.rest_rank(rest)
                self.assertEqual(looks.look_rank(sight, marks, one), rank)
                self.assertLess(rank, looks.look_rank(sight, marks, None))
        self.assertEqual(looks.look_rank(ONE, (0, 5), looks.free_look(ONE)), 0)
        point = (((3, 3),), ((3, 0),), gaps((0, -3), (3, 0)), ((1, 3),), ())
        # LOW 3: one mark below; HIGH 3: one above; just a number; - 3: both above, 3: one; one row.
        self.assertEqual(looks.look_rank(ONE, (0, 5), point), (2 + 2) + 11 + (3 + 2) + 1)

    def test_a_row_of_widenings_ends_within_its_rank(self):
        most = 0
        for times in range(80):
            sight = self.drawer.sight()
            marks = self.drawer.random.choice(((), (0,), (-5, -2, 0, 1, 4, 8)))
            look = None if times % 2 else self.drawer.look(sight)
            rank, changes = looks.look_rank(sight, marks, look), 0
            for _ in range(60):
                other = self.drawer.look(sight)
                wide = looks.look_widened(sight, marks, look, other)
                if looks.look_within(sight, other, look):
                    if None not in (look, other) and d.closed_differences(len(sight[0]), other[2]) is not None:
                        self.assertEqual(wide, look)
                    continue
                changes += 1
                self.assertLess(looks.look_rank(sight, marks, wide), looks.look_rank(sight, marks, look))
                self.assertIs(looks.look_within(sight, other, wide), True)
                look = wide
            self.assertLessEqual(changes, rank)
            most = max(most, changes)
        self.assertGreater(most, 6)

    def test_widened_to_marks(self):
        marks = (-10, 0, 10)
        one = (((0, 3), (0, 0)), (ALL, (0, 0)), gaps((0, 0, 0), (3, 0, 3), (0, 0, 0)), ((0, 1, 0),), ())
        other = (((0, 4), (1, 1)), (ALL, (1, 0)), gaps((0, 0, -1), (4, 0, 3), (1, 1, 0)), ((0, 1, 1),), ())
        self.assertEqual(looks.look_widened(TWO, marks, one, other), (
            ((0, 10), (0, 10)), (ALL, ALL), gaps((0, 0, 0), (10, 0, 3), (10, 10, 0)), (), ()))
        self.assertEqual(looks.look_widened(TWO, (), one, other), (((0, None), (0, None)), (ALL, ALL), gaps((0, 0, 0), (None, 0, 3), (None, None, 0)), (), ()))
        # Unclosed: the closing of the second part is held against bounds as they stand.
        loose = (((0, 9), (0, 9)), (ALL, ALL), gaps((0, None, None), (None, 0, 3), (None, 2, 0)), (), ())
        self.assertEqual(looks.look_widened(TWO, marks, loose, other), loose)
        tight = loose[:2] + (gaps((0, None, None), (None, 0, 2), (None, -8, 0)),) + loose[3:]
        self.assertEqual(looks.look_widened(TWO, marks, tight, other)[2], gaps((0, None, None), (None, 0, 10), (None, 10, 0)))


class Exchange(unittest.TestCase):
    def asked(self, sight, look, expected):
        self.assertTrue(looks.is_look(sight, look))
        found = looks.exchanged(sight, look)
        self.assertEqual(found, expected)
        self.assertIs(looks.look_within(sight, found, look), True)
        n = len(sight[0])
        for numbers in itertools.product(range(-4, 13), repeat=n):
            cells = ((0,) * sight[1][0][1][1],) if sight[1] else ()
            self.assertIs(looks.look_holds(sight, look, numbers, cells), is_held(expected, numbers, cells))

    def test_settled(self):
        self.asked(ONE, (((0, 9),), ((2, 4),), free_gaps(1), (), ()), (((2, 6),), ((2, 4),), gaps((0, -2), (6, 0)), (), ()))
        self.asked(ONE, (((3, 8),), ((2, 6),), free_gaps(1), (), ()), (((8, 8),), ((8, 0),), gaps((0, -8), (8, 0)), (), ()))
        self.asked(ONE, (((3, 7),), ((2, 6),), free_gaps(1), (), ()), None)
        self.asked(ONE, ((ANY,), ((5, 0),), free_gaps(1), (), ()), (((5, 5),), ((5, 0),), gaps((0, -5), (5, 0)), (), ()))

    def test_the_ends_go_into_the_differences(self):
        self.asked(TWO, (((1, 4), (None, 2)), (ALL, ALL), free_gaps(2), (), ()), (
            ((1, 4), (None, 2)), (ALL, ALL), gaps((0, -1, None), (4, 0, None), (2, 1, 0)), (), ()))

    def test_the_differences_go_into_the_stretches(self):
        # a from 1 to 4, b up to a - 2: b up to 2; b from 0 on: a from 2 on.
        self.asked(TWO, (((1, 4), (0, None)), (ALL, ALL), gaps((0, None, None), (None, 0, None), (None, -2, 0)), (), ()), (
            ((2, 4), (0, 2)), (ALL, ALL), gaps((0, -2, 0), (4, 0, 4), (2, -2, 0)), (), ()))
        self.asked(TWO, ((ANY, ANY), (ALL, ALL), gaps((0, 0, None), (None, 0, 0), (7, None, 0)), (), ()), (
            ((0, 7), (0, 7)), (ALL, ALL), gaps((0, 0, 0), (7, 0, 0), (7, 7, 0)), (), ()))

    def test_rings(self):
        self.asked(TWO, ((ANY, ANY), (ALL, ALL), gaps((0, None, None), (None, 0, -1), (None, 0, 0)), (), ()), None)
        self.asked(TWO, (((3, None), (None, 2)), (ALL, ALL), gaps((0, None, None), (None, 0, 0), (None, None, 0)), (), ()), None)

    def test_equations(self):
        # a + 2 b = 7, a from 0 to 9: b from - 1 to 3, odd a; in the second round the ends of b go into the differences.
        self.asked(TWO, (((0, 9), ANY), (ALL, ALL), free_gaps(2), ((1, 2, 7),), ()), (
            ((1, 9), (-1, 3)), ((1, 2), ALL), gaps((0, -1, 1), (9, 0, 10), (3, 2, 0)), ((1, 2, 7),), ()))
        # 2 a + 3 b = 1: first b from - 2 to 0; then a from 1 to 3, so b is - 1; the differences know of the first round.
        self.asked(TWO, (((0, 4), (-4, 4)), (ALL, ALL), free_gaps(2), ((2, 3, 1),), ()), (
            ((1, 3), (-1, -1)), (ALL, (-1, 0)), gaps((0, 0, 2), (4, 0, 6), (0, 0, 0)), ((2, 3, 1),), ()))
        self.asked(ONE, ((ANY,), (ALL,), free_gaps(1), ((2, 1),), ()), None)
        self.asked(ONE, ((ANY,), (ALL,), free_gaps(1), ((1, 6),), ()), (((6, 6),), ((6, 0),), gaps((0, -6), (6, 0)), ((1, 6),), ()))
        self.asked(TWO, ((ANY, (0, 3)), ((1, 2), (0, 2)), free_gaps(2), ((1, -1, 0),), ()), None)

    def test_opposite_rests_for_minus_one(self):
        # 3 a - b = 2: b is 3 a - 2, with a even 4 by 6.
        self.asked(TWO, ((ANY, ANY), ((0, 2), ALL), free_gaps(2), ((3, -1, 2),), ()), ((ANY, ANY), ((0, 2), (4, 6)), free_gaps(2), ((3, -1, 2),), ()))

    def test_names_in_order_within_a_row(self):
        # a = b by the row: the stretch of a is made lesser first, then that of b by it.
        self.asked(TWO, (((0, 9), (4, 12)), (ALL, ALL), free_gaps(2), ((1, -1, 0),), ()), (
            ((4, 9), (4, 9)), (ALL, ALL), gaps((0, -4, -4), (9, 0, 5), (9, 5, 0)), ((1, -1, 0),), ()))

    def test_just_two_rounds(self):
        three = ((("a", ("num",)), ("b", ("num",)), ("c", ("num",))), ())
        drawer = LookDrawer(1202)
        more = 0
        for _ in range(1500):
            look = drawer.look(three)
            once = looks.exchanged(three, look)
            again = looks.exchanged(three, once)
            self.assertIs(looks.look_within(three, again, once), True)
            more += once != again
        # Some looks would become lesser still, or nothing, in a third or fourth round.
        self.assertGreater(more, 5)

    def test_rows_are_settled(self):
        sight = ((), (("r", ("row", 2)), ("s", ("row", 1))))
        self.assertEqual(looks.exchanged(sight, ((), (), ((0,),), (), (((0, 9), (1, 4)), (ANY, (3, 0))))), ((), (), ((0,),), (), (((1, 9), (1, 4)), ((3, 3), (3, 0)))))
        self.assertIsNone(looks.exchanged(sight, ((), (), ((0,),), (), (((2, 4), (1, 4)), (ANY, ALL)))))

    def test_the_equations_stay(self):
        # The differences fix b - a, but no row comes of it; the row that fixes a - b tells no bound at once.
        self.asked(TWO, ((ANY, ANY), (ALL, ALL), gaps((0, None, None), (None, 0, 3), (None, -3, 0)), (), ()), (
            (ANY, ANY), (ALL, ALL), gaps((0, None, None), (None, 0, 3), (None, -3, 0)), (), ()))
        self.asked(TWO, ((ANY, ANY), (ALL, ALL), free_gaps(2), ((1, -1, 3),), ()), ((ANY, ANY), (ALL, ALL), free_gaps(2), ((1, -1, 3),), ()))


if __name__ == "__main__":
    unittest.main()
