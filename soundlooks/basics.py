"""Whole numbers, names and kinds, and the first words of the nodes of a tree."""

LETTERS = "abcdefghijklmnopqrstuvwxyz"
FIGURES = "0123456789"
LETTERS_AND_FIGURES = "abcdefghijklmnopqrstuvwxyz0123456789"
MOST_SIGNS_OF_NAME = 12
MOST_FIGURES = 40
# The least number from 0 on with more figures than one of a program may have.
NUMBERS_END = 10 ** 40
MOST_WIDTH = 16
MOST_CELLS = 8

# The words of the language, which are no names.
LANGUAGE_WORDS = (
    "num", "word", "row", "proc", "ask", "from", "to", "any", "if", "else", "while",
    "call", "check", "give", "given", "div", "mod", "not", "and", "or",
)

COMPARISONS = ("<", "<=", "==", "!=")

# What stands behind each first word of a node, element by element.
STATEMENTS = {
    "set": ("number", "expression"),
    "put": ("row", "expression", "expression"),
    "ask": ("number", "low", "high"),
    "if": ("condition", "block", "block"),
    "while": ("condition", "block"),
    "call": ("aim", "proc", "arguments"),
    "check": ("condition",),
    "give": ("expression",),
}
EXPRESSIONS = {
    "number": ("figures",),
    "name": ("number",),
    "cell": ("row", "expression"),
    "minus": ("expression",),
    "+": ("expression", "expression"),
    "-": ("expression", "expression"),
    "*": ("expression", "expression"),
    "div": ("expression", "expression"),
    "mod": ("expression", "expression"),
}
CONDITIONS = {
    "<": ("expression", "expression"),
    "<=": ("expression", "expression"),
    "==": ("expression", "expression"),
    "!=": ("expression", "expression"),
    "not": ("condition",),
    "and": ("condition", "condition"),
    "or": ("condition", "condition"),
}


def is_whole(value):
    """Whether a value is a whole number."""
    return isinstance(value, int) and not isinstance(value, bool)


def has_few_figures(value):
    """Whether a value is a whole number of as many figures as may stand in a program."""
    return is_whole(value) and -NUMBERS_END < value < NUMBERS_END


def is_low(value):
    """Whether a value is a LOW of an ask."""
    return value is None or has_few_figures(value)


def is_high(low, value):
    """Whether a value is a HIGH beside a LOW that is as told."""
    if value is None:
        return True
    return has_few_figures(value) and (low is None or low <= value)


def is_index(value, size):
    """Whether a value is an index of a tuple of this size."""
    return is_whole(value) and 0 <= value < size


def is_name(value):
    """Whether a value is a name."""
    if not isinstance(value, str) or not 1 <= len(value) <= MOST_SIGNS_OF_NAME:
        return False
    if value[0] not in LETTERS or value in LANGUAGE_WORDS:
        return False
    return all([sign in LETTERS_AND_FIGURES for sign in value])


def first_word(value):
    """The text with which a tuple begins; None for what is no such tuple."""
    if isinstance(value, tuple) and len(value) > 0 and isinstance(value[0], str):
        return value[0]
    return None


def is_kind(value):
    """Whether a value is a kind."""
    word = first_word(value)
    if word == "num":
        return len(value) == 1
    if word == "word":
        return len(value) == 2 and is_whole(value[1]) and 1 <= value[1] <= MOST_WIDTH
    if word == "row":
        return len(value) == 2 and is_whole(value[1]) and 1 <= value[1] <= MOST_CELLS
    return False


def is_row(pair):
    """Whether a pair of a name and a kind is that of a row."""
    return pair[1][0] == "row"
