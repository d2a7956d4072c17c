"""[B1], [B3]: the graphs of procedures, their places, edges and failing places, and what is in sight of a place."""

import unittest

from soundlooks.errors import InvalidIndex, InvalidPlace, InvalidProgram
from soundlooks.graphs import graph_of, numbers_at, place_path, rows_at
from tests.drawing import drawn_programs
from tests.helper import I, LESS, NUM, ONE, RICH, part, program_of
from tests.refusing import ODD, asked_in_order, given_wrongs

W = ("name", "w")
ZERO = ("number", 0)
NOUGHT = ("give", ZERO)
SET = ("set", "i", ONE)
PUT = ("put", "r", I, ONE)
ASK = ("ask", "w", None, 5)
CALL = ("call", "i", "one", (W,))
GIVE = ("give", I)
BODY = (1, 0, 3)

# Four unlike atoms, their guards, and the opposite ones.
A, B, C, D = ("<", I, W), ("<=", ONE, I), ("==", W, ZERO), ("!=", I, ZERO)
YES = {atom: ("guard",) + atom for atom in (A, B, C, D)}
NO = {
    A: ("guard", "<=", W, I),
    B: ("guard", "<", I, ONE),
    C: ("guard", "!=", W, ZERO),
    D: ("guard", "==", I, ZERO),
}


class Reader:
    """Tells a graph by looking places up, as the document has it: doors, what is behind, aims."""

    def __init__(self, program, proc):
        self.program = program
        self.base = (1, proc, 3)
        self.keys = []
        self.number_block(self.base)
        self.zero = len(self.keys)
        self.end = self.zero + 1

    def number_block(self, path):
        for at in range(len(part(self.program, path))):
            self.number_statement(path + (at,))

    def number_statement(self, path):
        statement = part(self.program, path)
        if statement[0] not in ("if", "while", "check"):
            self.keys.append((path, "itself"))
            return
        self.keys.extend((path, atom) for atom in atom_paths(statement[1], ()))
        for at in range(2, len(statement)):
            self.number_block(path + (at,))
        if statement[0] == "check":
            self.keys.append((path, "fails"))

    def door(self, path):
        return min(at for at, key in enumerate(self.keys) if key[0] == path)

    def door_of_block(self, path):
        return self.door(path + (0,)) if part(self.program, path) else self.behind_block(path)

    def behind_block(self, path):
        if path == self.base:
            return self.zero
        owner = path[:-1]
        return self.behind(owner) if part(self.program, owner)[0] == "if" else self.door(owner)

    def behind(self, path):
        block, at = path[:-1], path[-1]
        return self.door(block + (at + 1,)) if at + 1 < len(part(self.program, block)) else self.behind_block(block)

    def aims(self, path, at):
        """The aims of the condition at a path within the condition of the statement at a path."""
        statement = part(self.program, path)
        if at == ():
            if statement[0] == "if":
                return self.door_of_block(path + (2,)), self.door_of_block(path + (3,))
            if statement[0] == "while":
                return self.door_of_block(path + (2,)), self.behind(path)
            return self.behind(path), self.keys.index((path, "fails"))
        first, second = self.aims(path, at[:-1])
        word = part(statement[1], at[:-1])[0]
        if word == "not":
            return second, first
        if at[-1] == 2:
            return first, second
        other = at[:-1] + (2,)
        door = self.keys.index((path, atom_paths(part(statement[1], other), other)[0]))
        return (door, second) if word == "and" else (first, door)

    def graph(self):
        edges = []
        for place, (path, key) in enumerate(self.keys):
            statement = part(self.program, path)
            if key == "itself":
                edges.append((place, statement, self.end if statement[0] == "give" else self.behind(path)))
            elif key != "fails":
                atom = part(statement[1], key)
                first, second = self.aims(path, key)
                edges.append((place, ("guard",) + atom, first))
                edges.append((place, opposite(*atom), second))
        edges.append((self.zero, NOUGHT, self.end))
        return self.end + 1, tuple(edges), tuple(at for at, key in enumerate(self.keys) if key[1] == "fails")


def opposite(sign, left, right):
    if sign in ("<", "<="):
        return ("guard", "<=" if sign == "<" else "<", right, left)
    return ("guard", "!=" if sign == "==" else "==", left, right)


def atom_paths(condition, path):
    if condition[0] == "not":
        return atom_paths(condition[1], path + (1,))
    if condition[0] in ("and", "or"):
        return atom_paths(condition[1], path + (1,)) + atom_paths(condition[2], path + (2,))
    return [path]


def simple_edges(*told):
    """The edges of one atom each, told as (FROM, ATOM, FIRST, SECOND), and of steps, told as (FROM, STEP, TO)."""
    edges = []
    for edge in told:
        if len(edge) == 4:
            edges.append((edge[0], YES[edge[1]], edge[2]))
            edges.append((edge[0], NO[edge[1]], edge[3]))
        else:
            edges.append(edge)
    return tuple(edges)


class Graphs(unittest.TestCase):
    def asked(self, statements, count, edges, failing=(), paths=None):
        program = program_of(*statements)
        expected = (count, simple_edges(*edges) + ((count - 2, NOUGHT, count - 1),), failing)
        self.assertEqual(graph_of(program, 0), expected)
        self.assertEqual(Reader(program, 0).graph(), expected)
        if paths is not None:
            told = [None if path is None else BODY + path for path in list(paths) + [None, None]]
            self.assertEqual([place_path(program, 0, place) for place in range(count)], told)

    def test_nothing(self):
        self.asked((), 2, (), (), ())
        self.assertEqual(graph_of(program_of(), 1), (2, ((0, NOUGHT, 1),), ()))

    def test_one_place(self):
        for step in (SET, PUT, ASK, CALL, ("call", None, "main", ())):
            self.asked((step,), 3, ((0, step, 1),), (), ((0,),))
            self.asked((step, step), 4, ((0, step, 1), (1, step, 2)), (), ((0,), (1,)))
        self.asked((GIVE,), 3, ((0, GIVE, 2),), (), ((0,),))
        self.asked((GIVE, SET, GIVE, PUT), 6, ((0, GIVE, 5), (1, SET, 2), (2, GIVE, 5), (3, PUT, 4)), (),
                   ((0,), (1,), (2,), (3,)))

    def test_if(self):
        self.asked((("if", A, (SET,), (PUT,)), ASK), 6,
                   ((0, A, 1, 2), (1, SET, 3), (2, PUT, 3), (3, ASK, 4)), (), ((0,), (0, 2, 0), (0, 3, 0), (1,)))
        self.asked((("if", A, (), (PUT,)),), 4, ((0, A, 2, 1), (1, PUT, 2)), (), ((0,), (0, 3, 0)))
        self.asked((("if", A, (SET,), ()),), 4, ((0, A, 1, 2), (1, SET, 2)), (), ((0,), (0, 2, 0)))
        self.asked((("if", A, (), ()),), 3, ((0, A, 1, 1),), (), ((0,),))
        self.asked((("if", A, (SET, GIVE), (GIVE, SET)),), 7,
                   ((0, A, 1, 3), (1, SET, 2), (2, GIVE, 6), (3, GIVE, 6), (4, SET, 5)))

    def test_while(self):
        self.asked((("while", B, (SET,)), ASK), 5, ((0, B, 1, 2), (1, SET, 0), (2, ASK, 3)), (), ((0,), (0, 2, 0), (1,)))
        self.asked((("while", B, ()),), 3, ((0, B, 0, 1),), (), ((0,),))
        self.asked((("while", B, (SET, ("while", C, (PUT,)))),), 6,
                   ((0, B, 1, 4), (1, SET, 2), (2, C, 3, 0), (3, PUT, 2)), (), ((0,), (0, 2, 0), (0, 2, 1), (0, 2, 1, 2, 0)))
        self.asked((("while", B, (("while", C, ()),)),), 4, ((0, B, 1, 2), (1, C, 1, 0)))
        self.asked((("while", B, (GIVE,)),), 4, ((0, B, 1, 2), (1, GIVE, 3)))
        self.asked((("while", B, (("if", C, (), ()),)),), 4, ((0, B, 1, 2), (1, C, 0, 0)))
        self.asked((("while", B, (("if", C, (SET,), (("while", D, ()),)),)),), 6,
                   ((0, B, 1, 4), (1, C, 2, 3), (2, SET, 0), (3, D, 3, 0)))

    def test_check(self):
        self.asked((("check", C),), 4, ((0, C, 2, 1),), (1,), ((0,), (0,)))
        self.asked((("check", C), SET), 5, ((0, C, 2, 1), (2, SET, 3)), (1,), ((0,), (0,), (1,)))
        self.asked((("while", D, (("check", C),)),), 5, ((0, D, 1, 3), (1, C, 0, 2)), (2,), ((0,), (0, 2, 0), (0, 2, 0)))
        self.asked((("if", D, (("check", C),), ()),), 5, ((0, D, 1, 3), (1, C, 3, 2)), (2,))
        self.asked((("check", ("and", A, B)), ("check", D)), 7,
                   ((0, A, 1, 2), (1, B, 3, 2), (3, D, 5, 4)), (2, 4), ((0,), (0,), (0,), (1,), (1,)))

    def test_signs(self):
        for atom in (A, B, C, D):
            self.asked((("if", atom, (SET,), (PUT,)),), 5, ((0, atom, 1, 2), (1, SET, 3), (2, PUT, 3)))
            self.assertNotEqual(YES[atom], NO[atom])

    def test_not_and_or(self):
        def first_edges(condition):
            many = len(atom_paths(condition, ()))
            edges = graph_of(program_of(("if", condition, (SET,), (PUT,))), 0)[1][:2 * many]
            self.assertEqual(edges, Reader(program_of(("if", condition, (SET,), (PUT,))), 0).graph()[1][:2 * many])
            return edges

        self.assertEqual(first_edges(("not", A)), simple_edges((0, A, 2, 1)))
        self.assertEqual(first_edges(("not", ("not", A))), simple_edges((0, A, 1, 2)))
        self.assertEqual(first_edges(("and", A, B)), simple_edges((0, A, 1, 3), (1, B, 2, 3)))
        self.assertEqual(first_edges(("or", A, B)), simple_edges((0, A, 2, 1), (1, B, 2, 3)))
        self.assertEqual(first_edges(("not", ("and", A, B))), simple_edges((0, A, 1, 2), (1, B, 3, 2)))
        self.assertEqual(first_edges(("not", ("or", A, B))), simple_edges((0, A, 3, 1), (1, B, 3, 2)))
        self.assertEqual(first_edges(("and", ("not", A), B)), simple_edges((0, A, 3, 1), (1, B, 2, 3)))
        self.assertEqual(first_edges(("or", A, ("not", B))), simple_edges((0, A, 2, 1), (1, B, 3, 2)))
        self.assertEqual(first_edges(("and", ("or", A, B), C)), simple_edges((0, A, 2, 1), (1, B, 2, 4), (2, C, 3, 4)))
        self.assertEqual(first_edges(("or", ("and", A, B), C)), simple_edges((0, A, 1, 2), (1, B, 3, 2), (2, C, 3, 4)))
        self.assertEqual(first_edges(("and", A, ("or", B, C))), simple_edges((0, A, 1, 4), (1, B, 3, 2), (2, C, 3, 4)))
        self.assertEqual(first_edges(("or", A, ("and", B, C))), simple_edges((0, A, 3, 1), (1, B, 2, 4), (2, C, 3, 4)))
        self.assertEqual(
            first_edges(("not", ("and", ("or", A, B), ("or", C, D)))),
            simple_edges((0, A, 2, 1), (1, B, 2, 4), (2, C, 5, 3), (3, D, 5, 4)))

    # An atom 7 deep has expressions that are 8 deep.
    def test_conditions_up_to_8_deep(self):
        def wrapped(word, side, condition):
            if word == "not":
                return ("not", condition)
            return (word, condition, B) if side == 1 else (word, B, condition)

        for word in ("not", "and", "or"):
            for side in (1, 2):
                condition = A
                for _ in range(6):
                    condition = wrapped(word, side, condition)
                for program in (
                    program_of(("if", condition, (SET,), ())), program_of(("while", condition, ())),
                    program_of(("check", condition), GIVE),
                ):
                    self.assertEqual(graph_of(program, 0), Reader(program, 0).graph())
                    with self.assertRaises(InvalidProgram):
                        graph_of(program_of(("check", ("not", condition))), 0)
        mixed = A
        for word in ("and", "not", "or", "not", "and", "or"):
            mixed = ("not", mixed) if word == "not" else (word, mixed, B)
        program = program_of(("while", mixed, (SET, ("check", mixed))), ("if", mixed, (), (GIVE,)))
        self.assertEqual(graph_of(program, 0), Reader(program, 0).graph())

    def test_drawn_programs(self):
        for program in drawn_programs(11, 300, deep=5) + [RICH]:
            for proc in range(len(program[1])):
                reader = Reader(program, proc)
                self.assertEqual(graph_of(program, proc), reader.graph())
                paths = [key[0] for key in reader.keys] + [None, None]
                self.assertEqual([place_path(program, proc, at) for at in range(len(paths))], paths)

    def test_sight(self):
        own = (("g", NUM), ("w", ("word", 4)), ("i", NUM))
        rows = (("r", ("row", 3)), ("s", ("row", 8)))
        count = graph_of(RICH, 0)[0]
        for place in range(count - 1):
            self.assertEqual(numbers_at(RICH, 0, place), own)
            self.assertEqual(rows_at(RICH, 0, place), rows)
        self.assertEqual(numbers_at(RICH, 0, count - 1), own[:2] + (("given", NUM),))
        self.assertEqual(rows_at(RICH, 0, count - 1), rows[:1])
        sub = (("g", NUM), ("w", ("word", 4)), ("a", NUM), ("b", ("word", 16)), ("c", ("word", 1)))
        for place in range(2):
            self.assertEqual(numbers_at(RICH, 1, place), sub)
            self.assertEqual(rows_at(RICH, 1, place), rows[:1] + (("d", ("row", 1)),))
        self.assertEqual(numbers_at(RICH, 1, 2), own[:2] + (("given", NUM),))
        self.assertEqual(rows_at(RICH, 1, 2), rows[:1])
        self.assertEqual(numbers_at(program_of(), 1, 0), (("x", NUM),))
        self.assertEqual([numbers_at(program_of(), 1, 1), rows_at(program_of(), 1, 1)], [(("given", NUM),), ()])


class Refusals(unittest.TestCase):
    def test_refusals(self):
        program = program_of(SET, ("check", LESS))
        programs = [(((), None), InvalidProgram, {"place": (1,)})]
        programs += [(value, InvalidProgram, {"place": ()}) for value in (None, 1) + ODD]
        procs = given_wrongs(InvalidIndex, None, -1, 2, (), (0,), 10 ** 50, *ODD)
        places = given_wrongs(InvalidPlace, None, -1, 5, (), (0,), 10 ** 50, *ODD)
        asked_in_order(self, graph_of, {"program": program, "proc": 0}, {"program": programs, "proc": procs})
        for call in (place_path, numbers_at, rows_at):
            asked_in_order(self, call, {"program": program, "proc": 0, "place": 4},
                           {"program": programs, "proc": procs, "place": places})
        self.assertEqual(graph_of(program, 0)[0], 5)


if __name__ == "__main__":
    unittest.main()
