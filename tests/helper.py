"""What several tests need: programs to begin with, changing a part of a value, asking for an error."""

NUM = ("num",)
WORD = ("word", 16)
ONE = ("number", 1)
I = ("name", "i")
LESS = ("<", I, ONE)

# A program with each kind of statement, expression and condition in it.
RICH = (
    (("g", NUM), ("r", ("row", 3)), ("w", ("word", 4))),
    (
        (
            "main",
            (),
            (("i", NUM), ("s", ("row", 8))),
            (
                ("set", "i", ("+", ("minus", ("cell", "r", I)), ("number", 7))),
                ("put", "s", ("-", I, ONE), ("*", ("name", "g"), ("div", I, ("mod", I, ("number", 20))))),
                ("ask", "g", None, None),
                ("ask", "w", -3, 30),
                (
                    "if",
                    ("and", ("not", LESS), ("or", ("<=", I, ONE), ("==", I, ONE))),
                    (("while", ("!=", I, ONE), (("give", I),)),),
                    (("check", LESS), ("give", ONE)),
                ),
                ("call", None, "sub", (I, ("cell", "s", ONE))),
                ("call", "w", "main", ()),
            ),
        ),
        ("sub", (("a", NUM), ("b", WORD)), (("c", ("word", 1)), ("d", ("row", 1))), (("set", "c", ("name", "a")),)),
    ),
)


def program_of(*statements):
    """A program with num i, word w, row r and these statements; a further procedure takes one number."""
    pairs = (("i", NUM), ("w", ("word", 3)), ("r", ("row", 2)))
    return ((), (("main", (), pairs, statements), ("one", (("x", NUM),), (), ())))


def program_with(expression):
    """A program of program_of that gives an expression."""
    return program_of(("give", expression))


def replaced(value, path, part):
    """The value with a part in the place of what stands at a path."""
    if path == ():
        return part
    at = path[0]
    return value[:at] + (replaced(value[at], path[1:], part),) + value[at + 1:]


def part(value, path):
    """What stands at a path."""
    for at in path:
        value = value[at]
    return value


def paths_in(value, path=()):
    """All paths of a value, in order."""
    found = [path]
    if isinstance(value, tuple):
        for at, inner in enumerate(value):
            found.extend(paths_in(inner, path + (at,)))
    return found


def nested(value, times):
    """An expression with so many minus around it."""
    for _ in range(times):
        value = ("minus", value)
    return value


def refused(test, error, told, call, *given, **named):
    """Asks that a call raises just this error, which keeps just what is told."""
    with test.assertRaises(error) as caught:
        call(*given, **named)
    test.assertIs(type(caught.exception), error)
    test.assertEqual(vars(caught.exception), told)
