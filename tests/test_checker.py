"""[G8], [G9]: what the checker accepts, of anything at all."""

import inspect
import random
import unittest

from soundlooks import alarms, looks, tables
from soundlooks.checker import accepts
from soundlooks.errors import LookError
from soundlooks.machine import kind_of, run, states_of
from soundlooks.text import read
from tests.drawing import drawn_programs
from tests.helper import RICH, paths_in, replaced
from tests.refusing import ODD, UNASKED
from tests.test_alarms import MIXED, free_table
from tests.test_looks import LookDrawer
from tests.test_search import FINITE, OPEN, SQUARES
from tests.test_tables import HALF, NOUGHT, PROGRAMS, SOME, places_of, sight_at, told, with_look

SAFE = read("num g; proc main() { num x; ask x from 1 to 9; g = 18 div x; x = call f(x); } proc f(num n) { give 7 div n; }")


def judged(claim, paper):
    """[G8] by the functions that refuse what is wrong."""
    if type(claim) is not tuple or len(claim) < 2 or type(claim[0]) is not str:
        return False
    sizes = {"closed": 3, "not closed": 3, "stays": 5, "leaves": 5, "safe": 4, "wrong": 5, "never wrong": 2}
    if sizes.get(claim[0]) != len(claim):
        return False
    try:
        return judged_form(claim[0], claim[1], claim[2:], paper)
    except LookError:
        return False


def judged_form(word, program, rest, paper):
    if word in ("closed", "not closed"):
        is_closed = tables.is_closed(program, rest[0])
        if word == "closed":
            return type(paper) is tuple and len(paper) == 0 and is_closed
        if type(paper) is not tuple or len(paper) != 2:
            return False
        came = tables.coming(program, rest[0], *paper)
        return not looks.look_within(sight_at(program, *paper), came, rest[0][paper[0]][paper[1]])
    if rest:
        tables.coming(program, tables.empty_table(program), *rest[:2])
    if word in ("leaves", "wrong"):
        if word == "leaves":
            alarms.faults_at(program, *rest)
        else:
            alarms.bearing_run(program, *rest, 1)
        return judged_run(word, program, rest, paper)
    if word == "stays":
        alarms.faults_at(program, *rest)
    if type(paper) is not tuple or len(paper) != 2 or type(paper[0]) is not str:
        return False
    if paper[0] == "table":
        return tables.is_closed(program, paper[1]) and judged_table(word, program, rest, paper[1])
    return paper[0] == "states" and alarms.is_whole_search(program, paper[1]) and all(
        not goes_wrong(word, program, rest, state) for state, _, _ in alarms.found(program, paper[1]))


def judged_table(word, program, rest, table):
    if word == "stays":
        return looks.look_within(sight_at(program, *rest[:2]), table[rest[0]][rest[1]], rest[2])
    return not [alarm for alarm in alarms.alarms(program, table) if word == "never wrong" or alarm[:2] == rest[:2]]


def judged_run(word, program, rest, paper):
    if type(paper) is not tuple or len(paper) != 2:
        return False
    inputs, steps = paper
    _, _, done, used, state = run(program, inputs, steps)
    if done != steps or used != len(inputs):
        return False
    if word == "leaves":
        return goes_wrong("stays", program, rest, state)
    return state[0][-1][:2] == rest[:2] and kind_of(program, state) == ("fault", rest[2])


def goes_wrong(word, program, rest, state):
    """Whether a state is one that a claim of all runs denies."""
    if word != "stays":
        return (word == "never wrong" or state[0][-1][:2] == rest[:2]) and kind_of(program, state)[0] == "fault"
    if state[0][-1][:2] != rest[:2]:
        return False
    # With its last frame alone in question: the frames ahead lie in free looks.
    table = with_look(free_table(program), rest[:2], rest[2])
    for proc, place, _ in state[0][:-1]:
        if (proc, place) == rest[:2]:
            return not lies_alone(program, rest, state)
    return not tables.lies_in(program, table, state)


def lies_alone(program, rest, state):
    """Whether the last frame's values lie in a look, the frames ahead being at its place, too."""
    frame = state[0][-1]
    names, rows = sight_at(program, *rest[:2])
    told = {pair[0]: one for pair, one in zip(program[0], state[1])}
    if names[-1:] == (("given", ("num",)),):
        told["given"] = frame[2][0]
    else:
        told.update(zip([pair[0] for pair in program[1][frame[0]][1] + program[1][frame[0]][2]], frame[2]))
    return looks.look_holds((names, rows), rest[2], tuple(told[name] for name, _ in names), tuple(told[name] for name, _ in rows))


def good_pairs(program, most=300):
    """Claims and papers that are accepted, of all kinds that a program has."""
    found = []
    table = tables.analysed(program, ())
    empty = tables.empty_table(program)
    triples = alarms.found(program, most)
    whole = [("table", table)] + [("states", most)] * alarms.is_whole_search(program, most)
    found.append((("closed", program, table), ()))
    found.append((("not closed", program, empty), tables.open_place(program, empty)))
    if alarms.alarms(program, table) == ():
        found.append((("never wrong", program), whole[0]))
    for key in places_of(program):
        look = table[key[0]][key[1]]
        found.append((("stays", program) + key + (look,), whole[0]))
        if not [alarm for alarm in alarms.alarms(program, table) if alarm[:2] == key]:
            found.extend([(("safe", program) + key, paper) for paper in whole[:1]])
        reached = [(state, paper) for state, *paper in triples if state[0][-1][:2] == key]
        if reached:
            found.append((("leaves", program) + key + (None,), tuple(reached[0][1])))
        for state, paper in reached:
            word, what = kind_of(program, state)
            if word == "fault":
                found.append((("wrong", program) + key + (what,), tuple(paper)))
                break
    if len(whole) > 1:
        is_safe = not [state for state, _, _ in triples if kind_of(program, state)[0] == "fault"]
        found.extend([(("never wrong", program), whole[1])] * is_safe)
        for key in places_of(program):
            if not [state for state, _, _ in triples if state[0][-1][:2] == key]:
                found.append((("stays", program) + key + (None,), whole[1]))
            found.append((("stays", program) + key + (free_table(program)[key[0]][key[1]],), whole[1]))
    return found


class Accepting(unittest.TestCase):
    def test_each_kind_of_claim_with_each_kind_of_paper(self):
        words = set()
        for program in FINITE + OPEN + PROGRAMS + [MIXED, SAFE]:
            for claim, paper in good_pairs(program, 60):
                self.assertIs(accepts(claim, paper), True, (claim, paper))
                self.assertIs(judged(claim, paper), True)
                words.add((claim[0], paper[0] if paper and type(paper[0]) is str else len(paper)))
        self.assertEqual(words, {
            ("closed", 0), ("not closed", 2), ("stays", "table"), ("stays", "states"), ("leaves", 2), ("safe", "table"), ("wrong", 2),
            ("never wrong", "table"), ("never wrong", "states")})

    def test_position_and_name(self):
        self.assertEqual(list(inspect.signature(accepts).parameters), ["claim", "paper"])
        self.assertIs(accepts(paper=("table", told(1, 6)), claim=("never wrong", read("proc main() { num x; ask x from 1 to 6; x = 12 div x; }"))), True)

    def test_papers_of_one_claim_for_others(self):
        pairs = good_pairs(HALF) + good_pairs(SQUARES) + good_pairs(SAFE, 60)
        papers = [paper for _, paper in pairs] + [("states", 8), ("states", 12), ("states", 11), ("states", 1), ((), 0), ((1,), 2), ((1,), 4), ((0,), 2)]
        taken = 0
        for claim, _ in pairs:
            for paper in papers:
                expected = judged(claim, paper)
                self.assertIs(accepts(claim, paper), expected, (claim, paper))
                taken += expected
        self.assertGreater(taken, len(pairs))

    def test_closed(self):
        for program in PROGRAMS + [SAFE]:
            table = tables.analysed(program, ())
            self.assertIs(accepts(("closed", program, table), ()), True)
            for paper in (None, ((),), [], (0,), (0, 0), ("table", table), ("states", 300), False, "", UNASKED):
                self.assertIs(accepts(("closed", program, table), paper), False)
            for key in places_of(program):
                self.assertIs(accepts(("not closed", program, table), key), False)
        self.assertIs(accepts(("closed", HALF, told(0, 3)), ()), True)
        self.assertIs(accepts(("closed", HALF, told(1, 3)), ()), False)
        self.assertEqual([accepts(("not closed", HALF, told(1, 3)), (0, place)) for place in range(4)], [False, True, False, False])
        empty = tables.empty_table(HALF)
        self.assertEqual([accepts(("not closed", HALF, empty), (0, place)) for place in range(4)], [True, False, False, False])

    def test_a_look_made_lesser_where_a_run_stands(self):
        drawn = random.Random(701)
        many = 0
        for program in PROGRAMS + [SAFE, MIXED] + drawn_programs(702, 30, tame=True):
            table = tables.analysed(program, ())
            inputs = tuple(drawn.choice((0, 1, 2, 3, 5)) for _ in range(5))
            for state in drawn.sample(states_of(program, inputs, 40), 1):
                key = state[0][-1][:2]
                look = table[key[0]][key[1]]
                lesser = [with_look(table, key, None)]
                for at, (low, high) in enumerate(look[0]):
                    value = self.value_at(program, key, state, at)
                    for part in ((value + 1, max(high, value + 1) if high is not None else None),
                                 (min(low, value - 1) if low is not None else None, value - 1)):
                        lesser.append(with_look(table, key, (look[0][:at] + (part,) + look[0][at + 1:],) + look[1:]))
                for made in lesser:
                    self.assertIs(accepts(("closed", program, made), ()), False)
                    self.assertIs(accepts(("never wrong", program), ("table", made)), False)
                    many += 1
        self.assertGreater(many, 60)

    def value_at(self, program, key, state, at):
        names, _ = sight_at(program, *key)
        proc = program[1][key[0]]
        shared = {pair[0]: one for pair, one in zip(program[0], state[1])}
        own = state[0][-1][2]
        shared.update({"given": own[0]} if names[-1][0] == "given" else zip([pair[0] for pair in proc[1] + proc[2]], own))
        return shared[names[at][0]]

    def test_stays_for_each_look_that_it_lies_within(self):
        drawer = LookDrawer(703)
        both = 0
        for program in (HALF, SQUARES, SAFE, PROGRAMS[1], PROGRAMS[3]):
            table = tables.analysed(program, ())
            for proc, place in places_of(program):
                sight = sight_at(program, proc, place)
                for _ in range(6):
                    other = drawer.look(sight)
                    wider = looks.look_joined(sight, table[proc][place], other)
                    self.assertIs(accepts(("stays", program, proc, place, wider), ("table", table)), True)
                    is_within = looks.look_within(sight, table[proc][place], other)
                    self.assertIs(accepts(("stays", program, proc, place, other), ("table", table)), is_within)
                    both += is_within
        self.assertGreater(both, 3)

    def test_never_wrong_is_safe_everywhere(self):
        many = 0
        for program in FINITE + OPEN + PROGRAMS + [SAFE]:
            for paper in (("table", tables.analysed(program, ())), ("states", 60)):
                if accepts(("never wrong", program), paper):
                    many += 1
                    for key in places_of(program):
                        self.assertIs(accepts(("safe", program) + key, paper), True)
        self.assertGreater(many, 5)

    def test_run_papers(self):
        claim = ("wrong", HALF, 0, 1, "zero")
        for paper, expected in (
            (((0,), 1), True), (((0,), 2), False), (((0,), 0), False), (((0, 0), 1), False), (((), 1), False), (((), 0), False), (((1,), 1), False),
            (((4,), 1), False), (([0], 1), False), (((False,), 1), False), (((0,), True), False), (((0,), "1"), False), (((0,), 1, 0), False),
            (((0,),), False), (((0,), -1), False), (((0,), 301), False), (((0,) * 301, 1), False), (((None,), 1), False),
        ):
            self.assertIs(accepts(claim, paper), expected, paper)
        for claim in (("wrong", HALF, 0, 1, "cell"), ("wrong", HALF, 0, 1, "check"), ("wrong", HALF, 0, 0, "zero"), ("wrong", HALF, 0, 2, "zero")):
            self.assertIs(accepts(claim, ((0,), 1)), False)
        # Three hundred inputs, three hundred steps.
        asking = read("num g; proc main() { num x; while (0 <= x) { ask x from 0 to any; } check (x < 0); }")
        self.assertIs(accepts(("leaves", asking, 0, 0, None), ((7,) * 150, 300)), True)
        self.assertIs(accepts(("leaves", asking, 0, 0, None), ((7,) * 150, 299)), False)
        always = read("num g; proc main() { ask g from any to any; call main(); }")
        self.assertIs(accepts(("leaves", always, 0, 0, None), ((10 ** 300,) * 150, 300)), True)
        self.assertIs(accepts(("leaves", always, 0, 1, None), ((-1,) * 150, 299)), True)
        self.assertIs(accepts(("leaves", always, 0, 1, None), ((-1,) * 150, 300)), False)
        self.assertIs(accepts(("leaves", always, 0, 1, None), ((-1,) * 151, 301)), False)
        again = tables.analysed(always, ())[0][1]
        self.assertIs(accepts(("leaves", always, 0, 1, again), ((-1,) * 150, 299)), False)

    def test_states_papers(self):
        for most, expected in ((12, True), (300, True), (11, False), (1, False), (0, False), (301, False), (-1, False), (True, False), (None, False), ("12", False)):
            self.assertIs(accepts(("never wrong", SQUARES), ("states", most)), expected)
        # It is not enough that the searched states are not at fault.
        self.assertIs(accepts(("safe", OPEN[2], 0, 1), ("states", 300)), False)
        self.assertIs(accepts(("never wrong", OPEN[2]), ("table", tables.analysed(OPEN[2], ()))), True)
        self.assertIs(accepts(("stays", SQUARES, 0, 3, (((-6, -3), (0, 1)), ((0, 3), (0, 1)), ((0, None, None), (None, 0, None), (None, None, 0)), (), ())), ("states", 12)), True)
        self.assertIs(accepts(("stays", SQUARES, 0, 3, (((-6, -4), (0, 1)), ((0, 3), (0, 1)), ((0, None, None), (None, 0, None), (None, None, 0)), (), ())), ("states", 12)), False)

    def test_what_no_run_comes_to(self):
        program = PROGRAMS[8]
        table = tables.analysed(program, ())
        self.assertIs(accepts(("stays", program, 0, 1, None), ("table", table)), True)
        self.assertIs(accepts(("stays", program, 0, 1, None), ("states", 300)), True)
        self.assertIs(accepts(("stays", program, 0, 0, None), ("table", table)), False)
        self.assertIs(accepts(("leaves", program, 0, 0, None), ((), 0)), True)
        # Where the number lies that each run gives that is done.
        three = (((3, 3),), ((3, 0),), ((0, -3), (3, 0)), ((1, 3),), ())
        self.assertIs(accepts(("stays", program, 0, 5, three), ("table", table)), True)
        self.assertIs(accepts(("leaves", program, 0, 5, NOUGHT), ((), 1)), True)
        self.assertIs(accepts(("stays", program, 0, 5, NOUGHT), ("table", table)), False)


class AnythingAtAll(unittest.TestCase):
    def test_odd_claims_and_papers(self):
        good, paper = ("never wrong", SQUARES), ("states", 12)
        self.assertIs(accepts(good, paper), True)
        odd = ODD + (None, 0, 1, (), ((),), ("closed",), ("never wrong",), ("never wrong", SQUARES, 1), ("NEVER WRONG", SQUARES), ["never wrong", SQUARES],
                     (UNASKED, SQUARES), ("never wrong", UNASKED), (("never wrong",), SQUARES), ("never  wrong", SQUARES), (b"never wrong", SQUARES),
                     ("", SQUARES), ("safe", SQUARES), ("open", SQUARES), ("never wrong", ((), ())), ("never wrong", [(), ()]), (None, SQUARES), (True, SQUARES))
        for claim in odd:
            self.assertIs(accepts(claim, paper), False)
        for other in ODD + (None, 0, (), ("states",), ("states", 12, 0), ["states", 12], (UNASKED, 12), ("states", UNASKED), ("table", UNASKED), ("table", 12),
                            ("table", ()), ("table", None), (12, "states"), ("run", 12), (("states",), 12), ("Table", told(0, 3)), (UNASKED, UNASKED), UNASKED):
            self.assertIs(accepts(good, other), False)
        for claim in odd:
            for other in odd:
                self.assertIs(accepts(claim, other), False)

    def test_bent_at_each_element(self):
        for program in (HALF, SQUARES, SAFE):
            for claim, paper in good_pairs(program, 60)[:25]:
                for at in range(len(claim)):
                    for odd in ODD + (UNASKED, -1, 99, ("look",)):
                        bent = claim[:at] + (odd,) + claim[at + 1:]
                        self.assertIs(accepts(bent, paper), False, (claim[0], at, odd))
                    self.assertIs(accepts(claim[:at] + claim[at + 1:], paper), judged(claim[:at] + claim[at + 1:], paper))
                self.assertIs(accepts(claim + (None,), paper), False)
                self.assertIs(accepts(list(claim), paper), False)
                for at in range(len(paper)):
                    for odd in ODD + (UNASKED, -1, 301, ("look",)):
                        self.assertIs(accepts(claim, paper[:at] + (odd,) + paper[at + 1:]), False, (claim[0], at, odd))
                    self.assertIs(accepts(claim, paper[:at] + paper[at + 1:]), False)
                self.assertIs(accepts(claim, paper + (None,)), False)

    def test_bent_at_any_part(self):
        drawn = random.Random(704)
        parts = (None, True, UNASKED, "x", -1, 0, 1, 2, 5, (), (0, 1), ((), ()), "zero", ("num",), ("name", "x"), [0])
        taken = 0
        for program in (HALF, SAFE, PROGRAMS[6]):
            for claim, paper in good_pairs(program, 40):
                for value, is_claim in ((claim, True), (paper, False)):
                    for path in drawn.sample(paths_in(value), min(25, len(paths_in(value)))):
                        bent = replaced(value, path, drawn.choice(parts))
                        pair = (bent, paper) if is_claim else (claim, bent)
                        expected = judged(*pair)
                        self.assertIs(accepts(*pair), expected)
                        taken += expected
        self.assertGreater(taken, 50)


class Excluding(unittest.TestCase):
    """Of claims that exclude one another at most one is accepted, and what is accepted is so."""

    def test_drawn(self):
        drawer = LookDrawer(705)
        drawn = drawer.random
        words = set()
        for program in FINITE + OPEN + PROGRAMS + drawn_programs(706, 25) + drawn_programs(707, 25, tame=True):
            places = places_of(program)
            table = tables.analysed(program, ())
            runs = [tuple(drawn.choice((0, 1, 2, 3, -1, 5)) for _ in range(5)) for _ in range(5)]
            states = [state for inputs in runs for state in states_of(program, inputs, 60)]
            papers = [("table", table), ("table", tables.narrowed(program, table, places[:300])), ("table", free_table(program)), ("states", 60), ("states", 300)]
            papers += [("table", with_look(table, drawn.choice(places), None))]
            for inputs in runs:
                steps = drawn.randrange(len(states_of(program, inputs, 60)))
                papers.append((inputs[:run(program, inputs, steps)[3]], steps))
            for _ in range(4):
                key = drawn.choice(places)
                look = drawn.choice([None, drawer.look(sight_at(program, *key)), table[key[0]][key[1]]])
                self.asked(program, key, look, papers, states, words)
        self.assertEqual(words, {"stays", "leaves", "safe", "wrong", "never wrong"})

    def asked(self, program, key, look, papers, states, words):
        claims = [("stays", program) + key + (look,), ("leaves", program) + key + (look,), ("safe", program) + key, ("never wrong", program)]
        claims += [("wrong", program) + key + (fault,) for fault in ("zero", "cell", "check")]
        taken = {claim[0] for claim in claims for paper in papers if accepts(claim, paper)}
        words |= taken
        for one, other in (("stays", "leaves"), ("safe", "wrong"), ("never wrong", "wrong")):
            self.assertFalse({one, other} <= taken, (program, key, look))
        for state in states:
            if "stays" in taken:
                self.assertFalse(goes_wrong("stays", program, key + (look,), state))
            for word in {"safe", "never wrong"} & taken:
                self.assertFalse(goes_wrong(word, program, key, state))

    def test_closed_and_not_closed(self):
        drawer = LookDrawer(708)
        found = set()
        for program in PROGRAMS + drawn_programs(709, 20, tame=True):
            table = tables.analysed(program, ())
            for _ in range(4):
                key = drawer.random.choice(places_of(program))
                made = with_look(table, key, drawer.look(sight_at(program, *key)))
                closed = accepts(("closed", program, made), ())
                opened = [key for key in places_of(program) if accepts(("not closed", program, made), key)]
                self.assertIs(closed, opened == [])
                found.add(closed)
        self.assertEqual(found, {True, False})

    def test_for_every_order_of_looking(self):
        drawn = random.Random(710)
        for program in PROGRAMS + [RICH] + drawn_programs(711, 20, tame=True):
            places = places_of(program)
            for _ in range(3):
                table = tables.analysed(program, tuple(drawn.choice(places) for _ in range(drawn.choice((0, 9, 40)))))
                self.assertIs(accepts(("closed", program, table), ()), True)
                table = tables.narrowed(program, table, tuple(drawn.choice(places) for _ in range(10)))
                self.assertIs(accepts(("closed", program, table), ()), True)


class Some(unittest.TestCase):
    def test_it_tells_nothing(self):
        for claim in (("stays", HALF, 0, 2, SOME), ("stays", HALF, 0, 3, SOME)):
            self.assertIs(accepts(claim, ("table", free_table(HALF))), True)


if __name__ == "__main__":
    unittest.main()
