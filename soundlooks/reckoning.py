"""Reckons expressions in the values of names: a whole number, or the text of a fault."""

# Whole expressions of steps, but for guards, stay below this size.
GREAT = 1 << 1300


def reckoned(expression, worths):
    """What an expression comes to in a dict of names with their values."""
    word = expression[0]
    if word == "number":
        return expression[1]
    if word == "name":
        return worths[expression[1]]
    if word == "cell":
        return cell_reckoned(expression, worths)
    parts = all_reckoned(expression[1:], worths)
    if is_fault(parts):
        return parts
    if word == "minus":
        return -parts[0]
    return put_together(word, parts[0], parts[1])


def is_fault(value):
    """Whether what was reckoned is the text of a fault."""
    return isinstance(value, str)


def all_reckoned(expressions, worths):
    """The list of what expressions come to, the first one first; the first fault, if there is any."""
    found = []
    for expression in expressions:
        number = reckoned(expression, worths)
        if is_fault(number):
            return number
        found.append(number)
    return found


def cell_reckoned(expression, worths):
    """What a cell comes to."""
    _, name, at = expression
    index = reckoned(at, worths)
    if is_fault(index):
        return index
    cells = worths[name]
    return cells[index] if 0 <= index < len(cells) else "cell"


def put_together(sign, left, right):
    """What two numbers with a sign between them come to."""
    if sign == "+":
        return left + right
    if sign == "-":
        return left - right
    if sign == "*":
        return left * right
    if right == 0:
        return "zero"
    return left // right if sign == "div" else left % right


def is_so(sign, left, right):
    """Whether two numbers are as a guard's sign tells."""
    if sign == "<":
        return left < right
    if sign == "<=":
        return left <= right
    if sign == "==":
        return left == right
    return left != right


def nought(kind):
    """The value with which a name of this kind begins."""
    return (0,) * kind[1] if kind[0] == "row" else 0


def taken(kind, number):
    """What a name of this kind takes of a number."""
    return number % (1 << kind[1]) if kind[0] == "word" else number


def is_great(number):
    """Whether a number is of a size that no step may bring forth."""
    return number >= GREAT or number <= -GREAT


def asked_by(step):
    """The expressions that a step asks for, in order."""
    word = step[0]
    if word in ("set", "put", "guard"):
        return step[2:]
    if word == "call":
        return step[3]
    return () if word == "ask" else step[1:]


def judged(step, worths):
    """What the expressions of a step come to, and the pair (WORD, WHAT) that keeps it from being done, or None."""
    numbers = all_reckoned(asked_by(step), worths)
    if is_fault(numbers):
        return [], ("fault", numbers)
    if step[0] == "put" and not 0 <= numbers[0] < len(worths[step[1]]):
        return numbers, ("fault", "cell")
    if step[0] != "guard" and any([is_great(number) for number in numbers]):
        return numbers, ("great", None)
    return numbers, None
