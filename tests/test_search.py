"""[G3] to [G7]: the numbers tried, the states that get numbers, whole searches, and answers to alarms."""

import itertools
import random
import unittest

from soundlooks import alarms, looks, tables
from soundlooks.machine import first_state, kind_of, moved, run, states_of
from soundlooks.text import read
from soundlooks.trees import marks_of
from tests.drawing import drawn_programs
from tests.test_looks import LookDrawer, is_held
from tests.test_tables import HALF, PROGRAMS, places_of, sight_at

SQUARES = read("proc main() { num x; num y; ask x from 0 to 3; y = x * x mod 4; x = 6 div (y - 2); }")
# Few states, whatever comes in; the searches of all of these are whole.
FINITE = [HALF, SQUARES] + [read(text) for text in (
    "proc main() { }",
    "proc main() { while (0 < 1) { } }",
    "word 2 w; proc main() { while (0 < 1) { w = w + 1; } }",
    "word 1 w; proc main() { ask w from 0 to 3; check (w == 0); }",
    "num g; proc main() { num x; num y; ask x from -1 to 1; ask y from 0 to 2; g = x + y; if (g == 3) { g = 1 div 0; } }",
    "row 2 r; proc main() { num i; ask i from 0 to 2; r[i] = 7; i = call f(r[0]); } proc f(num n) { if (n < 2) { give n; } n = call f(n - 5); }",
    "num g; proc main() { num i; while (i < 2) { ask g from 0 to 1; i = i + 1; } check (g == 0); }",
    # All numbers from 0 to 9 are marks or bounds.
    "proc main() { num x; ask x from 0 to 9; x = 3 - 6 * x; x = 9 div (x - 3); }",
    "proc main() { num x; num y; ask x from 1 to 2; ask y from 1 to 2; if (x != y) { x = y; } y = 0; give x; }",
    "proc main() { num x; while (0 <= x) { ask x from 0 to 7; } }",
    "proc main() { num x; x = 1; while (0 < 1) { x = x * x * 16; } }",
)]
# Those that leave something out, or do not try all.
OPEN = [read(text) for text in (
    "proc main() { num x; ask x from 0 to 20; check (x != 13); }",
    "proc main() { num x; ask x from any to 3; x = 1 div x; }",
    "proc main() { num x; ask x from 1 to any; x = 1 div x; }",
    "proc main() { num x; ask x from any to any; check (x != 77); }",
    # 6 alone is neither a mark nor a bound.
    "row 6 r; proc main() { num x; ask x from 0 to 8; x = 3; }",
    "proc main() { num x; while (0 < 1) { x = x + 1; } }",
    "num g; proc main() { g = g + 1; call main(); }",
)]


def tried(program, low, high):
    """[G3] word by word."""
    if low is not None and high is not None and high - low + 1 <= 8:
        return list(range(low, high + 1))
    told = {mark for mark in marks_of(program) if (low is None or low <= mark) and (high is None or mark <= high)}
    return sorted(told | {end for end in (low, high) if end is not None})


def searched(program, most):
    """[G4], [G6] word by word: the triples, and whether the search is whole."""
    states, ways = [first_state(program)], [((), 0)]
    left_out, all_tried = False, True
    at = 0
    while at < len(states):
        inputs, steps = ways[at]
        word, what = kind_of(program, states[at])
        behind = []
        if word == "goes":
            behind = [(moved(program, states[at], None), inputs)]
        elif word == "waits":
            numbers = tried(program, *what)
            behind = [(moved(program, states[at], number), inputs + (number,)) for number in numbers]
            all_tried = all_tried and None not in what and numbers == list(range(what[0], what[1] + 1))
        for state, given in behind:
            if state not in states and len(states) < most:
                states.append(state)
                ways.append((given, steps + 1))
            elif state not in states:
                left_out = True
        at += 1
    return tuple((state,) + way for state, way in zip(states, ways)), all_tried and not left_out


class Tried(unittest.TestCase):
    def test_by_hand(self):
        # Marks: 0, 9 to 11, 99 to 101, of word 3 the 7, of row 4 the 3, and all their opposites; 1 and 2 of no number.
        program = read("word 3 w; row 4 r; proc main() { num x; x = 100; ask x from -10 to any; }")
        marks = (-101, -100, -99, -11, -10, -9, -7, -3, 0, 3, 7, 9, 10, 11, 99, 100, 101)
        self.assertEqual(marks_of(program), marks)
        for low, high, expected in (
            (None, None, marks), (0, None, (0, 3, 7, 9, 10, 11, 99, 100, 101)), (None, -10, (-101, -100, -99, -11, -10)),
            (0, 7, (0, 1, 2, 3, 4, 5, 6, 7)), (0, 8, (0, 3, 7, 8)), (1, 8, (1, 2, 3, 4, 5, 6, 7, 8)), (1, 9, (1, 3, 7, 9)),
            (5, 5, (5,)), (101, 101, (101,)), (102, None, (102,)), (None, -200, (-200,)), (200, 300, (200, 300)), (-4, 4, (-4, -3, 0, 3, 4)),
            (101, 500, (101, 500)), (-3, 3, (-3, -2, -1, 0, 1, 2, 3)), (10 ** 60, 10 ** 60 + 7, tuple(10 ** 60 + at for at in range(8))),
            (10 ** 60, 10 ** 60 + 8, (10 ** 60, 10 ** 60 + 8)), (-10 ** 399, 10 ** 399, (-10 ** 399,) + marks + (10 ** 399,)),
        ):
            self.assertEqual(alarms.tried_numbers(program, low, high), expected)

    def test_drawn(self):
        drawn = random.Random(601)
        for program in PROGRAMS + drawn_programs(602, 60):
            for _ in range(15):
                low, high = (drawn.choice([None, drawn.randint(-40, 40)]) for _ in range(2))
                if low is not None and high is not None and low > high:
                    low, high = high, low
                self.assertEqual(alarms.tried_numbers(program, low, high), tuple(tried(program, low, high)))

    def test_at_asks(self):
        program = OPEN[0]
        states = alarms.found(program, 300)
        self.assertEqual([inputs for _, inputs, steps in states if steps == 1], [(n,) for n in (0, 1, 12, 13, 14, 19, 20)])
        program = OPEN[3]
        self.assertEqual([inputs for _, inputs, steps in alarms.found(program, 300) if steps == 1],
                         [(n,) for n in (-78, -77, -76, 0, 76, 77, 78)])


class Searches(unittest.TestCase):
    def test_beside_the_words(self):
        for program in FINITE + OPEN + PROGRAMS + drawn_programs(603, 40, tame=True) + drawn_programs(604, 30):
            for most in (1, 2, 3, 7, 40):
                expected, is_whole = searched(program, most)
                self.assertEqual(alarms.found(program, most), expected)
                self.assertIs(alarms.is_whole_search(program, most), is_whole)

    def test_the_greatest_bound(self):
        for program in FINITE + OPEN:
            expected, is_whole = searched(program, 300)
            self.assertEqual(alarms.found(program, 300), expected)
            self.assertIs(alarms.is_whole_search(program, 300), is_whole)
            self.assertIs(is_whole, program in FINITE)

    def test_bounds_of_just_as_many_and_one_fewer(self):
        for program in FINITE:
            many = len(alarms.found(program, 300))
            whole = alarms.found(program, many)
            self.assertEqual(whole, alarms.found(program, 300))
            self.assertIs(alarms.is_whole_search(program, many), True)
            self.assertIs(alarms.is_whole_search(program, min(300, many + 1)), True)
            if many > 1:
                self.assertIs(alarms.is_whole_search(program, many - 1), False)
                self.assertEqual(alarms.found(program, many - 1), whole[:-1])
        self.assertEqual([len(alarms.found(program, 300)) for program in FINITE[:4]], [9, 12, 2, 1])

    def test_greater_bounds_keep_what_was_told(self):
        for program in FINITE + OPEN + PROGRAMS[:8]:
            whole = alarms.found(program, 300)
            for most in (1, 2, 5, 30, 100, 299):
                self.assertEqual(alarms.found(program, most), whole[:most])
                if alarms.is_whole_search(program, most):
                    self.assertTrue(all(alarms.is_whole_search(program, more) for more in (most + 1, 300)))

    def test_the_run_with_the_inputs_stands_in_the_state(self):
        for program in FINITE + OPEN + PROGRAMS:
            triples = alarms.found(program, 120)
            self.assertEqual(triples[0], (first_state(program), (), 0))
            self.assertEqual(len({triple[0] for triple in triples}), len(triples))
            order = [(steps, inputs) for _, inputs, steps in triples]
            self.assertEqual(order, sorted(order))
            for state, inputs, steps in triples:
                states = states_of(program, inputs, steps)
                self.assertEqual((len(states), states[-1]), (steps + 1, state))
                self.assertEqual(run(program, inputs, steps)[2:], (steps, len(inputs), state))

    def test_no_run_of_tried_numbers_comes_sooner(self):
        for program in FINITE + OPEN[:4] + PROGRAMS[:5]:
            first = {}
            lot = [(first_state(program), ())]
            for steps in range(7):
                behind = []
                for state, inputs in lot:
                    first.setdefault(state, (inputs, steps))
                    if first[state][1] == steps and inputs < first[state][0]:
                        first[state] = (inputs, steps)
                    word, what = kind_of(program, state)
                    if word == "goes":
                        behind.append((moved(program, state, None), inputs))
                    if word == "waits":
                        behind += [(moved(program, state, n), inputs + (n,)) for n in tried(program, *what)]
                lot = behind
                if len(lot) > 3000:
                    break
            told = {state: (inputs, steps) for state, inputs, steps in alarms.found(program, 300)}
            for state, way in told.items():
                if state in first:
                    self.assertEqual(first[state], way)

    def test_whole_searches_have_met_all_states(self):
        for program in FINITE:
            states = {triple[0] for triple in alarms.found(program, 300)}
            met = set()
            for inputs in itertools.product(range(-1, 10), repeat=2):
                met |= set(states_of(program, inputs, 60))
            self.assertTrue(met <= states)
            if all(steps < 60 for _, _, steps in alarms.found(program, 300)):
                self.assertEqual(met, states)

    def test_words_lead_to_the_same_states(self):
        told = [inputs for _, inputs, steps in alarms.found(FINITE[5], 300) if steps == 1]
        self.assertEqual(told, [(0,), (1,)])

    def test_many_frames(self):
        triples = alarms.found(OPEN[6], 300)
        self.assertEqual([len(triples), len(triples[-1][0][0]), triples[-1][1:]], [300, 150, ((), 299)])
        self.assertIs(alarms.is_whole_search(OPEN[6], 300), False)
        # What is great ends the run.
        self.assertEqual(kind_of(FINITE[-1], alarms.found(FINITE[-1], 300)[-1][0]), ("great", None))


class Answers(unittest.TestCase):
    def asked(self, program, table, most):
        triples, is_whole = searched(program, most)
        told = alarms.answers(program, table, most)
        self.assertEqual(tuple(answer[:3] for answer in told), alarms.alarms(program, table))
        for proc, place, fault, answer in told:
            borne = [(inputs, steps) for state, inputs, steps in triples
                     if state[0][-1][:2] == (proc, place) and kind_of(program, state) == ("fault", fault)]
            first = borne[0] if borne else None
            self.assertEqual(alarms.bearing_run(program, proc, place, fault, most), first)
            if borne:
                self.assertEqual(answer, ("run",) + first)
                inputs, steps = first
                word, what, done, used, state = run(program, inputs, 300)
                self.assertEqual((word, what, done, used, state[0][-1][:2]), ("fault", fault, steps, len(inputs), (proc, place)))
            else:
                self.assertEqual(answer, ("never",) if is_whole else ("open",))
        return told

    def test_answers(self):
        found = set()
        for program in FINITE + OPEN + PROGRAMS + drawn_programs(605, 40) + drawn_programs(606, 40, tame=True):
            for table in (tables.analysed(program, ()), tables.empty_table(program)):
                before = None
                for most in (1, 4, 30, 60):
                    told = self.asked(program, table, most)
                    found |= {answer[3][0] for answer in told}
                    if before is not None:
                        for one, other in zip(before, told):
                            self.assertTrue(one == other or one[3] == ("open",))
                    before = told
        self.assertEqual(found, {"run", "never", "open"})

    def test_by_hand(self):
        def answers(program, most):
            return alarms.answers(program, tables.analysed(program, ()), most)

        self.assertEqual(answers(OPEN[0], 300), ((0, 2, "check", ("run", (13,), 2)),))
        self.assertEqual(answers(OPEN[0], 4), ((0, 2, "check", ("open",)),))
        self.assertEqual(answers(OPEN[1], 300), ((0, 1, "zero", ("run", (0,), 1)),))
        self.assertEqual(answers(OPEN[2], 300), ())
        odd = read("proc main() { num x; ask x from 0 to 50; check (x * x != 49); }")
        self.assertEqual(answers(odd, 300), ((0, 2, "check", ("open",)),))
        odd = read("proc main() { num x; ask x from 0 to 6; check (x * x != 35); }")
        self.assertEqual(answers(odd, 300), ((0, 2, "check", ("never",)),))
        self.assertEqual(answers(odd, 2), ((0, 2, "check", ("open",)),))

    def test_bearing_runs(self):
        self.assertEqual(alarms.bearing_run(HALF, 0, 1, "zero", 2), ((0,), 1))
        for place, fault, most in ((1, "zero", 1), (1, "cell", 300), (1, "check", 300), (0, "zero", 300), (2, "zero", 300), (3, "zero", 300)):
            self.assertIsNone(alarms.bearing_run(HALF, 0, place, fault, most))
        # Of those that bear it the one of the fewest steps, then of the least input.
        program = read("proc main() { num x; ask x from -3 to 3; if (x < 0) { x = x + 1; } x = 1 div (x - x * x * x); }")
        self.assertEqual([alarms.bearing_run(program, 0, 3, "zero", most) for most in (8, 300)], [None, ((0,), 2)])
        program = read("proc main() { num x; num y; ask x from 0 to 3; ask y from 0 to 3; check (x + y != 4); }")
        self.assertEqual(alarms.bearing_run(program, 0, 3, "check", 300), ((1, 3), 3))

    def test_leaving_runs(self):
        drawer = LookDrawer(607)
        left = 0
        for program in FINITE + OPEN + PROGRAMS + drawn_programs(608, 40):
            triples = alarms.found(program, 80)
            for proc, place in places_of(program):
                names, rows = sight_at(program, proc, place)
                look = drawer.random.choice([drawer.look((names, rows)), None, looks.free_look((names, rows))])
                first = None
                for state, inputs, steps in triples:
                    frame = state[0][-1]
                    if frame[:2] != (proc, place):
                        continue
                    told = {pair[0]: one for pair, one in zip(program[0], state[1])}
                    own = program[1][proc][1] + program[1][proc][2]
                    told.update({"given": frame[2][0]} if ("given", ("num",)) in names else zip([pair[0] for pair in own], frame[2]))
                    if not is_held(look, tuple(told[name] for name, _ in names), tuple(told[name] for name, _ in rows)):
                        first = (inputs, steps)
                        break
                self.assertEqual(alarms.leaving_run(program, proc, place, look, 80), first)
                left += first is not None and look is not None
        self.assertGreater(left, 40)


if __name__ == "__main__":
    unittest.main()
