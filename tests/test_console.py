"""[H1], [H2]: the console: what it holds, and what it answers to each line."""

import inspect
import random
import unittest

from soundlooks import alarms, console, tables
from soundlooks.console import Console
from soundlooks.errors import InvalidProgram, InvalidText
from soundlooks.graphs import graph_of, numbers_at, place_path, rows_at
from soundlooks.machine import run
from soundlooks.text import lines_of, read, show
from soundlooks.trees import statement_count
from tests.drawing import drawn_programs
from tests.helper import RICH
from tests.refusing import ODD, UNASKED
from tests.test_alarms import MIXED
from tests.test_search import FINITE, OPEN
from tests.test_tables import PROGRAMS, places_of

NO_LINE, NO_PROGRAM = ("no such line",), ("no program",)
SMALL = "num g; row 2 r; proc main() { num x; ask x from 0 to 3; g = 6 div x; r[1] = g; x = call half(g); check (x < 3); }\nproc half(num n) { if (n == 1) { give 0; } give n div 2; }"
BIG = "7" * 41


def with_small():
    desk = Console()
    assert desk.say("put " + SMALL) == ("8 statements",)
    return desk


def lines_of_places(program, proc):
    """For each place the line on which its statement begins, or that of the procedure's last bracket."""
    ends = [line for line, row in enumerate(show(program).split("\n"), start=1) if row == "}"]
    begun = dict(lines_of(program))
    paths = [place_path(program, proc, place) for place in range(graph_of(program, proc)[0])]
    return [ends[proc] if path is None else begun[path] for path in paths]


class Holding(unittest.TestCase):
    def test_a_new_one_holds_nothing(self):
        desk = Console()
        self.assertIsNone(desk.program())
        self.assertEqual(desk.say("undo"), ("nothing to undo",))
        for line in ("show", "places p", "run 3 1 2", "look p 0", "alarms 5", "changes", "drop p", "add num x;", "add", "run 301", "alarms 0", "look p -1",
                     "run 0 " + "1 " * 300, "look p " + BIG):
            self.assertEqual(desk.say(line), NO_PROGRAM)
        self.assertIsNone(desk.program())

    def test_signatures(self):
        self.assertEqual(list(inspect.signature(Console.say).parameters), ["self", "line"])
        self.assertEqual(list(inspect.signature(Console.program).parameters), ["self"])
        self.assertEqual(list(inspect.signature(Console).parameters), [])
        self.assertEqual(list(inspect.signature(console.best_table).parameters), ["program"])
        self.assertEqual(Console().say(line=" "), NO_LINE)

    def test_two_consoles_have_nothing_in_common(self):
        one, other = Console(), Console()
        one.say("put proc p() { }")
        self.assertIsNone(other.program())
        self.assertEqual(other.say("undo"), ("nothing to undo",))

    def test_put_and_undo(self):
        desk = Console()
        texts = ("proc p() { }", "proc p() { give 1; }", SMALL, "proc p() { }", "proc p() { }")
        for text in texts:
            self.assertEqual(desk.say("put " + text), (f"{statement_count(read(text))} statements",))
            self.assertEqual(desk.program(), read(text))
        for text in texts[-2::-1]:
            self.assertEqual(desk.say("undo"), ("undone",))
            self.assertEqual(desk.program(), read(text))
        self.assertEqual(desk.say("undo"), ("undone",))
        self.assertIsNone(desk.program())
        self.assertEqual(desk.say("show"), NO_PROGRAM)
        for _ in range(3):
            self.assertEqual(desk.say("undo"), ("nothing to undo",))

    def test_where_the_text_begins(self):
        desk = Console()
        tree = read("proc p() { }")
        for line in ("put proc p() { }", "put\nproc p() { }", "  put proc p() { }", "\n \nput proc p() { }", "put   proc\np() { }  ", "put\n\nproc p() { } # put"):
            self.assertEqual(desk.say(line), ("0 statements",))
            self.assertEqual(desk.program(), tree)
        for line, place in (
            ("put", "1 1"), ("put ", "1 1"), ("  put", "1 1"), ("put\n", "1 1"), ("put  ", "1 2"), ("put\n\n", "2 1"), ("put x", "1 1"), ("put\nx", "1 1"), ("put  x", "1 2"),
            ("put \n x", "2 2"), ("put proc p() {", "1 11"), ("put proc p() {\n", "2 1"), ("put proc put() { x = 007; }", "1 19"), ("put \tproc", "1 1"),
            ("put proc p() { } put", "1 14"), (" put proc p( {", "1 9"), ("put\nproc\np( {", "2 4"), ("put \u00e9", "1 1"),
        ):
            self.assertEqual(desk.say(line), ("bad text at " + place,), line)
            self.assertEqual(desk.program(), tree)

    def test_wrong_programs(self):
        desk = with_small()
        for line, path in (
            ("put num a; num a; proc p() { }", "0 1 0"), ("put proc p(num a) { }", "1 0 1"), ("put proc p() { q = 1; }", "1 0 3 0 1"), ("put word 17 a; proc p() { }", "0 0 1"),
            ("put proc p() { call q(); }", "1 0 3 0 2"), ("add proc half() { }", "1 2 0"), ("add proc q() { give h; }", "1 2 3 0 1 1"), ("add proc q(row 2 s) { }", "1 2 1 0 1"),
            ("drop half", "1 0 3 3 2"), ("drop main", "1 0 1"),
        ):
            self.assertEqual(desk.say(line), ("wrong at " + path,))
            self.assertEqual(desk.program(), read(SMALL))
        self.assertEqual(console.wrong_text(()), "wrong at")
        alone = Console()
        alone.say("put proc p() { }")
        self.assertEqual(alone.say("drop p"), ("wrong at 1",))

    def test_add(self):
        desk = with_small()
        more = "proc third() { give 3; }"
        self.assertEqual(desk.say("add " + more), ("9 statements",))
        self.assertEqual(desk.program(), read(SMALL + more))
        # The line is counted in the whole, which is shown text and what stands behind it.
        many = show(read(SMALL + more)).count("\n")
        for text, line, column in (("x", 1, 1), ("\n x", 2, 2), ("proc q() {", 1, 11), ("num z;", 1, 1), ("proc q() { x = 007; }", 1, 17), ("proc q() {\n", 2, 1)):
            self.assertEqual(desk.say("add " + text), (f"bad text at {many + line} {column}",))
        self.assertEqual(desk.say("add"), ("9 statements",))
        self.assertEqual(desk.say("add\n# nothing"), ("9 statements",))
        self.assertEqual(desk.program(), read(SMALL + more))
        self.assertEqual([desk.say("undo") for _ in range(5)], [("undone",)] * 4 + [("nothing to undo",)])

    def test_drop(self):
        desk = with_small()
        desk.say("add proc third() { give 3; }")
        self.assertEqual(desk.say("drop third"), ("8 statements",))
        self.assertEqual(desk.program(), read(SMALL))
        self.assertEqual(desk.say("undo"), ("undone",))
        self.assertEqual(len(desk.program()[1]), 3)
        for line in ("drop", "drop third main", "drop fourth", "drop 3", "drop g", "drop THIRD", "drop third;"):
            self.assertEqual(desk.say(line), NO_LINE)
        desk.say("put proc a() { } proc b() { give 1; } proc c() { call b(); }")
        self.assertEqual(desk.say("drop a"), ("2 statements",))
        self.assertEqual([proc[0] for proc in desk.program()[1]], ["b", "c"])
        self.assertEqual(desk.say("drop b"), ("wrong at 1 0 3 0 2",))

    def test_a_drawn_row_of_lines(self):
        drawn = random.Random(901)
        texts = [show(program) for program in PROGRAMS[:6] + FINITE[:3]]
        asking = ["show", "changes", "places main", "run 20 1 2 3", "look main 0", "alarms 9", "", "undo it", "put num", "add x", "drop nobody", "put proc p(num a) { }", "put"]
        for _ in range(12):
            desk, quiet = Console(), Console()
            held, ahead = None, []
            for _ in range(25):
                for line in drawn.sample(asking, drawn.randint(0, 2)):
                    before = desk.program()
                    desk.say(line)
                    self.assertEqual(desk.program(), before)
                line = drawn.choice(("put " + drawn.choice(texts), "undo", "add proc extra() { give 1; }", "drop extra"))
                told = desk.say(line)
                self.assertEqual(quiet.say(line), told)
                if line == "undo":
                    self.assertEqual(told, ("undone",) if ahead else ("nothing to undo",))
                    held = ahead.pop() if ahead else held
                elif told[0].endswith("statements"):
                    ahead.append(held)
                    held = desk.program()
                self.assertEqual((desk.program(), quiet.program()), (held, held))

    def test_undo_brings_back_every_answer(self):
        desk = with_small()
        lines = ["show", "places main", "places half", "places third", "run 30 2", "run 30 0", "look half 3", "alarms 60", "changes"]
        before = [desk.say(line) for line in lines]
        for change in ("put proc third() { }", "add proc third() { }", "add"):
            desk.say(change)
            self.assertEqual(desk.say("undo"), ("undone",))
            self.assertEqual([desk.say(line) for line in lines], before)


class Lines(unittest.TestCase):
    def test_no_text(self):
        for line in [value for value in ODD if type(value) is not str] + [None, 0, ("show",), UNASKED]:
            desk = with_small()
            with self.assertRaises(InvalidText) as caught:
                desk.say(line)
            self.assertEqual(vars(caught.exception), {"line": None, "column": None})
            self.assertEqual(desk.program(), read(SMALL))

    def test_no_such_line(self):
        for desk in (Console(), with_small()):
            for line in (
                "", " ", "\n", "\n \n", "shows", "SHOW", "show it", "undo 1", "changes 1", "drop", "drop a b", "places", "places a b", "run", "run x", "run 1 x", "run 1 2 x 3",
                "look", "look main", "look main 0 0", "look main x", "look 0 main", "alarms", "alarms x", "alarms 1 2", "run 007", "run -0", "run 1 00", "run 1 -0", "run +1",
                "run 1 -", "run 1 --1", "run 1 1.0", "run 1 1e3", "run 1 1_0", "run " + BIG + "7", "run 1 " + BIG + "7", "run 1 -" + BIG + "7", "look main 00", "alarms 010",
                "run 5 " + "1 " * 301, "look main -", "show\t", "\tshow", "show\r", "run\t1", "show\u00a0", "put\t", "run \u0661", "run 1 \u00b2", "run 1 0x1", "quit", "read", "?",
                "putproc p() { }", "show;",
            ):
                before = desk.program()
                self.assertEqual(desk.say(line), NO_LINE, line)
                self.assertEqual(desk.program(), before)

    def test_refused_only_when_a_program_is_held(self):
        desk, bare = with_small(), Console()
        for line in ("places nobody", "places g", "places Main", "run 301", "run -1", "run " + BIG, "run -" + BIG + " 1", "look main 18", "look main -1", "look nobody 0",
                     "look main " + BIG, "alarms 0", "alarms 301", "alarms -5", "alarms " + BIG, "drop nobody", "places 0"):
            self.assertEqual(bare.say(line), NO_PROGRAM)
            self.assertEqual(desk.say(line), NO_LINE)
        for line in ("run 300", "run 0", "run 300 " + "-" + BIG, "run 1 " + "1 " * 300, "alarms 300", "alarms 1", "look main 0", "look main 7"):
            self.assertNotEqual(desk.say(line), NO_LINE)

    def test_blanks_and_line_feeds_between_words(self):
        desk = with_small()
        self.assertEqual(desk.say("  run\n\n3   2 "), desk.say("run 3 2"))
        self.assertEqual(desk.say("\nplaces\nhalf\n"), desk.say("places half"))
        self.assertEqual(desk.say("show "), desk.say("show"))

    def test_show(self):
        desk = with_small()
        self.assertEqual("".join(line + "\n" for line in desk.say("show")), show(read(SMALL)))
        self.assertEqual(desk.say("show")[:4], ("num g;", "row 2 r;", "proc main() {", "  num x;"))

    def test_places(self):
        desk = with_small()
        self.assertEqual(desk.say("places main"), ("0 at 5", "1 at 6", "2 at 7", "3 at 8", "4 at 9", "5 at 9", "6 at 10", "7 at 10"))
        self.assertEqual(desk.say("places half"), ("0 at 12", "1 at 13", "2 at 15", "3 at 16", "4 at 16"))
        for program in [RICH, MIXED] + PROGRAMS + drawn_programs(902, 30):
            desk.say("put " + show(program))
            for proc, told in enumerate(program[1]):
                expected = tuple(f"{place} at {line}" for place, line in enumerate(lines_of_places(program, proc)))
                self.assertEqual(desk.say("places " + told[0]), expected)

    def test_run(self):
        desk = with_small()
        for line, expected in (
            ("run 0", ("waits at 5", "g = 0", "x = 0", "r = 0 0")),
            ("run 0 3", ("goes at 5", "g = 0", "x = 0", "r = 0 0")),
            ("run 9", ("waits at 5", "g = 0", "x = 0", "r = 0 0")),
            ("run 9 4", ("waits at 5", "g = 0", "x = 0", "r = 0 0")),
            ("run 9 -1", ("waits at 5", "g = 0", "x = 0", "r = 0 0")),
            ("run 9 0", ("fault zero at 6", "g = 0", "x = 0", "r = 0 0")),
            ("run 3 2", ("goes at 8", "g = 3", "x = 2", "r = 0 3")),
            ("run 4 2", ("goes at 12", "g = 3", "n = 3", "r = 0 3")),
            ("run 6 2", ("goes at 16", "g = 3", "given = 1", "r = 0 3")),
            ("run 7 2", ("goes at 9", "g = 3", "x = 1", "r = 0 3")),
            ("run 300 2", ("done 0", "g = 3", "r = 0 3")),
            ("run 300 2 5 5 5", ("done 0", "g = 3", "r = 0 3")),
            ("run 300 1", ("fault check at 9", "g = 6", "x = 3", "r = 0 6")),
        ):
            self.assertEqual(desk.say(line), expected, line)
        desk.say("put num g; proc main() { g = 2; while (0 < 1) { g = g * g * g; } }")
        told = desk.say("run 300")
        self.assertEqual(told[0], "great at 5")
        self.assertTrue(told[1].startswith("g = ") and len(told) == 2)
        desk.say("put word 4 w; row 3 r; proc main() { ask w from any to any; r[w] = 1; }")
        self.assertEqual(desk.say("run 9 -" + BIG), ("fault cell at 5", f"w = {-int(BIG) % 16}", "r = 0 0 0"))
        self.assertEqual(desk.say("run 9 18"), ("done 0", "w = 2", "r = 0 0 1"))
        desk.say("put proc main() { }")
        self.assertEqual([desk.say("run 0"), desk.say("run 1")], [("goes at 2",), ("done 0",)])

    def test_runs_of_drawn_programs(self):
        desk = Console()
        drawn = random.Random(903)
        words = set()
        for program in PROGRAMS + FINITE + [MIXED] + drawn_programs(904, 60, procs=3) + drawn_programs(905, 40, tame=True):
            desk.say("put " + show(program))
            for _ in range(4):
                steps, inputs = drawn.choice((0, 1, 2, 5, 9, 60)), tuple(drawn.randint(-2, 5) for _ in range(drawn.randint(0, 5)))
                told = desk.say(" ".join(["run", str(steps)] + [str(number) for number in inputs]))
                word, what, _, _, (frames, shared) = run(program, inputs, steps)
                proc, place, own = frames[-1]
                worth = dict(zip([pair[0] for pair in program[0]], shared))
                names, rows = numbers_at(program, proc, place), rows_at(program, proc, place)
                if ("given", ("num",)) in names:
                    worth["given"] = own[0]
                else:
                    worth.update(zip([pair[0] for pair in program[1][proc][1] + program[1][proc][2]], own))
                line = lines_of_places(program, proc)[place]
                if word == "done":
                    first, names = f"done {what}", names[:-1]
                else:
                    first = f"fault {what} at {line}" if word == "fault" else f"{word} at {line}"
                words.add((word, "given" in worth))
                expected = [first] + [f"{name} = {worth[name]}" for name, _ in names]
                expected += [f"{name} = " + " ".join(map(str, worth[name])) for name, _ in rows]
                self.assertEqual(told, tuple(expected))
        self.assertTrue({("done", True), ("goes", True), ("goes", False), ("fault", False), ("waits", False)} <= words)

    def test_look(self):
        desk = with_small()
        self.assertEqual(desk.say("look main 1"), (
            "g: 0 .. 0, just 0", "x: 0 .. 3, 0 mod 1", "0 - g <= 0", "0 - x <= 0", "g - 0 <= 0", "g - x <= 0", "x - 0 <= 3", "x - g <= 3", "g = 0", "r[]: 0 .. 0, just 0"))
        table = console.best_table(read(SMALL))
        for proc, place in places_of(read(SMALL)):
            name = ("main", "half")[proc]
            self.assertEqual(desk.say(f"look {name} {place}"), console.shown_look(read(SMALL), proc, place, table[proc][place]))

    def test_alarms(self):
        desk = with_small()
        self.assertEqual(desk.say("alarms 300"), ("main 1 zero: run in 1 steps with 0", "main 5 check: run in 8 steps with 1"))
        self.assertEqual(desk.say("alarms 1"), ("main 1 zero: open", "main 5 check: open"))
        desk.say("put num g; proc main() { if (g == 0) { call bad(); } } proc bad() { num x; g = 1 div x; }")
        self.assertEqual(desk.say("alarms 9"), ("bad 0 zero: run in 2 steps",))
        desk.say("put proc main() { num x; num y; ask x from -2 to 3; ask y from 0 to 1; check (x * x != 9 or y == 0); check (x * x != 8); }")
        self.assertEqual(desk.say("alarms 300"), ("main 4 check: run in 4 steps with 3 1", "main 6 check: never"))
        desk.say("put proc main() { }")
        self.assertEqual(desk.say("alarms 300"), ("no alarms",))
        for program in FINITE + OPEN + PROGRAMS:
            desk.say("put " + show(program))
            told = alarms.answers(program, console.best_table(program), 50)
            lines = []
            for proc, place, fault, reply in told:
                begun = f"{program[1][proc][0]} {place} {fault}: {reply[0]}"
                if reply[0] == "run":
                    begun += f" in {reply[2]} steps" + (" with " + " ".join(map(str, reply[1])) if reply[1] else "")
                lines.append(begun)
            self.assertEqual(desk.say("alarms 50"), tuple(lines) if lines else ("no alarms",))

    def test_changes(self):
        desk = Console()
        for program in FINITE + PROGRAMS:
            desk.say("put " + show(program))
            self.assertEqual(desk.say("changes"), ("{} of {}".format(*tables.changes_of(program, ())),))


class Tables(unittest.TestCase):
    def test_best_table(self):
        narrower = 0
        for program in FINITE + OPEN + PROGRAMS + drawn_programs(906, 15, tame=True):
            expected = tables.analysed(program, ())
            for key in places_of(program):
                expected = tables.narrowed(program, expected, (key,))
            self.assertEqual(console.best_table(program), expected)
            self.assertTrue(tables.is_closed(program, expected))
            narrower += expected != tables.analysed(program, ())
        self.assertGreater(narrower, 1)

    def test_refused(self):
        for value in ODD + (None, (), UNASKED):
            with self.assertRaises(InvalidProgram) as caught:
                console.best_table(value)
            self.assertEqual(vars(caught.exception), {"place": ()})
        with self.assertRaises(InvalidProgram) as caught:
            console.best_table(program=((), ()))
        self.assertEqual(vars(caught.exception), {"place": (1,)})


if __name__ == "__main__":
    unittest.main()
