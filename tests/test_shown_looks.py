"""[H3]: looks as texts."""

import re
import unittest

from soundlooks import looks
from soundlooks.console import best_table, shown_look
from soundlooks.equations import equations_from
from soundlooks.errors import InvalidIndex, InvalidLook, InvalidPlace, InvalidProgram
from soundlooks.text import read
from tests.drawing import drawn_programs
from tests.refusing import ODD, UNASKED, asked_in_order, given_wrongs
from tests.test_looks import LookDrawer
from tests.test_tables import HALF, NOUGHT, PROGRAMS, places_of, sight_at

THREE = read("num a; row 2 r; word 3 b; row 1 q; proc main() { num c; row 8 s; }")
FREE = looks.free_look(sight_at(THREE, 0, 0))
EMPTY = read("proc main() { }")


def read_back(sight, told):
    """The look that is shown by texts."""
    if told == ("none",):
        return None
    names = [name for name, _ in sight[0]]
    indexes = ["0"] + names
    n = len(names)
    stretches, rests, cells = {}, {}, {}
    differences = [[0 if i == j else None for j in range(n + 1)] for i in range(n + 1)]
    rows = []
    for line in told:
        pair = re.fullmatch(r"(\w+)(\[\])?: (any|-?\d+) \.\. (any|-?\d+), (?:just (-?\d+)|(\d+) mod (\d+))", line)
        bound = re.fullmatch(r"(\w+) - (\w+) <= (-?\d+)", line)
        if pair:
            ends = tuple(None if end == "any" else int(end) for end in pair.group(3, 4))
            rest = (int(pair.group(5)), 0) if pair.group(5) else (int(pair.group(6)), int(pair.group(7)))
            if pair.group(2):
                cells[pair.group(1)] = (ends, rest)
            else:
                stretches[pair.group(1)], rests[pair.group(1)] = ends, rest
        elif bound:
            differences[indexes.index(bound.group(1))][indexes.index(bound.group(2))] = int(bound.group(3))
        else:
            sums, number = line.split(" = ")
            row = [0] * n
            for sign, size, name in re.findall(r"(?:^| )(-|\+ |- |)(\d*) ?([a-z]\w*)", sums):
                row[names.index(name)] = int(size or 1) * (-1 if sign.strip() == "-" else 1)
            rows.append(tuple(row) + (int(number),))
    return (tuple(stretches[name] for name in names), tuple(rests[name] for name in names), tuple(map(tuple, differences)), tuple(rows),
            tuple(cells[name] for name, _ in sight[1]))


class Shown(unittest.TestCase):
    def test_none_and_nothing(self):
        self.assertEqual(shown_look(THREE, 0, 0, None), ("none",))
        self.assertEqual(shown_look(EMPTY, 0, 0, None), ("none",))
        self.assertEqual(shown_look(EMPTY, 0, 0, ((), (), ((0,),), (), ())), ())
        self.assertEqual(shown_look(EMPTY, 0, 1, NOUGHT), ("given: 0 .. 0, just 0", "0 - given <= 0", "given - 0 <= 0", "given = 0"))

    def test_the_free_look(self):
        self.assertEqual(shown_look(THREE, 0, 0, FREE), (
            "a: any .. any, 0 mod 1", "b: any .. any, 0 mod 1", "c: any .. any, 0 mod 1", "r[]: any .. any, 0 mod 1", "q[]: any .. any, 0 mod 1",
            "s[]: any .. any, 0 mod 1"))
        end = sight_at(THREE, 0, 1)
        self.assertEqual(shown_look(THREE, 0, 1, looks.free_look(end)), (
            "a: any .. any, 0 mod 1", "b: any .. any, 0 mod 1", "given: any .. any, 0 mod 1", "r[]: any .. any, 0 mod 1", "q[]: any .. any, 0 mod 1"))

    def test_stretches_and_rests(self):
        look = (((-3, 7), (None, -1), (0, None)), ((1, 4), (-12, 0), (20159, 20160)), FREE[2], (), (((5, 5), (5, 0)), ((None, 0), (0, 1)), ((None, None), (2, 3))))
        self.assertEqual(shown_look(THREE, 0, 0, look), (
            "a: -3 .. 7, 1 mod 4", "b: any .. -1, just -12", "c: 0 .. any, 20159 mod 20160", "r[]: 5 .. 5, just 5", "q[]: any .. 0, 0 mod 1", "s[]: any .. any, 2 mod 3"))

    def test_differences(self):
        differences = ((0, -1, None, 3), (9, 0, 0, None), (None, -7, 0, 12), (None, None, 1, 0))
        told = shown_look(THREE, 0, 0, FREE[:2] + (differences,) + FREE[3:])
        self.assertEqual(told[3:-3], ("0 - a <= -1", "0 - c <= 3", "a - 0 <= 9", "a - b <= 0", "b - a <= -7", "b - c <= 12", "c - b <= 1"))

    def test_equations(self):
        for rows, expected in (
            (((1, 0, 0, 5),), ("a = 5",)),
            (((0, 1, 0, -5),), ("b = -5",)),
            (((1, -1, 0, 0),), ("a - b = 0",)),
            (((1, 1, 1, 0),), ("a + b + c = 0",)),
            (((2, -3, 4, -1),), ("2 a - 3 b + 4 c = -1",)),
            (((0, 10, -1, 7),), ("10 b - c = 7",)),
            (((1, 0, -2, 3), (0, 5, 6, 0)), ("a - 2 c = 3", "5 b + 6 c = 0")),
            (((1, 0, 0, 1), (0, 1, 0, 2), (0, 0, 1, 3)), ("a = 1", "b = 2", "c = 3")),
        ):
            self.assertEqual(shown_look(THREE, 0, 0, FREE[:3] + (rows,) + FREE[4:])[3:-3], expected)

    def test_great_numbers(self):
        great = 10 ** 399
        look = (((-great, great), (None, None), (None, None)),) + FREE[1:]
        self.assertEqual(shown_look(THREE, 0, 0, look)[0], f"a: -1{'0' * 399} .. 1{'0' * 399}, 0 mod 1")

    def test_as_it_stands(self):
        # Neither closed nor settled nor exchanged: a look that holds nothing is shown as it is.
        look = (((0, 1),) * 3, ((7, 0),) * 3, ((0, -1, None, None), (0, 0, None, None), (None,) * 2 + (0, None), (None,) * 3 + (0,)), ((2, 0, 0, 1),), FREE[4])
        self.assertEqual(shown_look(THREE, 0, 0, look)[:6], ("a: 0 .. 1, just 7", "b: 0 .. 1, just 7", "c: 0 .. 1, just 7", "0 - a <= -1", "a - 0 <= 0", "2 a = 1"))

    def test_unlike_looks_are_shown_unlike(self):
        drawer = LookDrawer(951)
        for program in [THREE, EMPTY] + PROGRAMS + drawn_programs(952, 30):
            for proc, place in places_of(program):
                sight = sight_at(program, proc, place)
                shown = {}
                for _ in range(8):
                    look = drawer.look(sight)
                    told = shown_look(program, proc, place, look)
                    self.assertIs(type(told), tuple)
                    self.assertEqual(shown.setdefault(told, look), look)
                    self.assertEqual(read_back(sight, told), look)

    def test_tables(self):
        for program in PROGRAMS:
            table = best_table(program)
            for proc, place in places_of(program):
                look = table[proc][place]
                self.assertEqual(read_back(sight_at(program, proc, place), shown_look(program, proc, place, look)), look)

    def test_equations_of_many_names(self):
        drawer = LookDrawer(953)
        program = read("num a; num b; num c; num d; num e; num f; num g; num h; proc main() { }")
        sight = sight_at(program, 0, 0)
        free = looks.free_look(sight)
        for _ in range(100):
            rows = tuple(tuple(drawer.random.choice((0, 0, 1, -1, 2, -7)) for _ in range(9)) for _ in range(3))
            look = free[:3] + (equations_from(8, rows) or (),) + free[4:]
            self.assertEqual(read_back(sight, shown_look(program, 0, 0, look)), look)


class Refusals(unittest.TestCase):
    def test_refusals(self):
        wrong = {
            "program": [(((), None), InvalidProgram, {"place": (1,)}), (UNASKED, InvalidProgram, {"place": ()})],
            "proc": given_wrongs(InvalidIndex, None, -1, 1, (), *ODD),
            "place": given_wrongs(InvalidPlace, None, -1, 4, (), *ODD),
            "look": given_wrongs(InvalidLook, 0, (), NOUGHT[:4], list(NOUGHT), FREE, (UNASKED,) * 5, *ODD),
        }
        asked_in_order(self, shown_look, {"program": HALF, "proc": 0, "place": 3, "look": NOUGHT}, wrong)


if __name__ == "__main__":
    unittest.main()
