"""Lays the bodies of procedures out as graphs: places, edges, failing places, and the statement of each place."""

OPPOSITES = {"==": "!=", "!=": "=="}
GIVE_NOTHING = ("give", ("number", 0))


def atoms_in(condition):
    """How many atoms a condition has."""
    if condition[0] == "not":
        return atoms_in(condition[1])
    if condition[0] in ("and", "or"):
        return atoms_in(condition[1]) + atoms_in(condition[2])
    return 1


def places_in(statement):
    """How many places a statement has, with all within it."""
    word = statement[0]
    if word == "check":
        return atoms_in(statement[1]) + 1
    if word in ("if", "while"):
        return atoms_in(statement[1]) + sum([places_of(block) for block in statement[2:]])
    return 1


def places_of(block):
    """How many places the statements of a block have."""
    return sum([places_in(statement) for statement in block])


def opposite_guard(atom):
    """The guard that is so just where an atom is not."""
    sign, left, right = atom
    if sign == "<":
        return ("guard", "<=", right, left)
    if sign == "<=":
        return ("guard", "<", right, left)
    return ("guard", OPPOSITES[sign], left, right)


class Layout:
    """The graph of a procedure: for each place the path of its statement and the pairs (STEP, TO) that leave it."""

    def __init__(self, program, proc):
        body = program[1][proc][3]
        self.paths = []
        self.leaving = []
        self.failing = []
        self.end = places_of(body) + 1
        self.lay_block(body, (1, proc, 3), self.end - 1)
        self.add_place(None, [(GIVE_NOTHING, self.end)])
        self.add_place(None, [])

    def add_place(self, path, leaving):
        """Adds the next place."""
        self.paths.append(path)
        self.leaving.append(leaving)

    def lay_block(self, block, path, behind):
        """Lays the statements of a block behind which this place is next."""
        for at, statement in enumerate(block):
            door_of_next = len(self.paths) + places_in(statement)
            is_last = at + 1 == len(block)
            self.lay_statement(statement, path + (at,), behind if is_last else door_of_next)

    def lay_statement(self, statement, path, behind):
        """Lays a statement behind which this place is next."""
        word = statement[0]
        if word == "if":
            self.lay_if(statement, path, behind)
        elif word == "while":
            self.lay_while(statement, path, behind)
        elif word == "check":
            self.lay_check(statement, path, behind)
        elif word == "give":
            self.add_place(path, [(statement, self.end)])
        else:
            self.add_place(path, [(statement, behind)])

    def lay_if(self, statement, path, behind):
        """Lays an if: its atoms, then THEN, then ELSE."""
        _, condition, chosen, other = statement
        door = len(self.paths) + atoms_in(condition)
        other_door = door + places_of(chosen)
        self.lay_condition(condition, path, behind if chosen == () else door, behind if other == () else other_door)
        self.lay_block(chosen, path + (2,), behind)
        self.lay_block(other, path + (3,), behind)

    def lay_while(self, statement, path, behind):
        """Lays a while: its atoms, then BODY."""
        _, condition, body = statement
        own_door = len(self.paths)
        self.lay_condition(condition, path, own_door if body == () else own_door + atoms_in(condition), behind)
        self.lay_block(body, path + (2,), own_door)

    def lay_check(self, statement, path, behind):
        """Lays a check: its atoms, then its failing place."""
        failing = len(self.paths) + atoms_in(statement[1])
        self.lay_condition(statement[1], path, behind, failing)
        self.failing.append(failing)
        self.add_place(path, [])

    def lay_condition(self, condition, path, first, second):
        """Lays a condition of the statement at a path, with its two aims."""
        word = condition[0]
        if word == "not":
            self.lay_condition(condition[1], path, second, first)
        elif word in ("and", "or"):
            door = len(self.paths) + atoms_in(condition[1])
            if word == "and":
                self.lay_condition(condition[1], path, door, second)
            else:
                self.lay_condition(condition[1], path, first, door)
            self.lay_condition(condition[2], path, first, second)
        else:
            self.add_place(path, [(("guard",) + condition, first), (opposite_guard(condition), second)])


def layouts_of(program):
    """The graphs of all procedures of a program."""
    return [Layout(program, proc) for proc in range(len(program[1]))]
