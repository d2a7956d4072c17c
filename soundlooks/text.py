"""Programs as texts: reading a text as a program, and showing a program as a text."""

from soundlooks.arguments import refuse_wrong_proc, refuse_wrong_program
from soundlooks.cutting import cut, place_behind
from soundlooks.errors import InvalidProgram, InvalidText
from soundlooks.reading import Reader, read_tree
from soundlooks.showing import ANY_RANK, condition_text, expression_text, shown_page
from soundlooks.wrongs import kinds_in_sight, wrong_condition, wrong_expression


def tokens(text):
    """The tokens of a text, each with its line and column."""
    refuse_no_text(text)
    found, bad = cut(text)
    if bad is not None:
        raise InvalidText(bad[0], bad[1])
    return found


def read(text):
    """The program that is read from a text."""
    refuse_no_text(text)
    found, bad = cut(text)
    end = place_behind(text) if bad is None else bad
    reader = Reader(found, end)
    tree = read_tree(reader)
    if bad is not None:
        raise InvalidText(bad[0], bad[1])
    refuse_wrong_program(tree)
    return tree


def refuse_no_text(text):
    """Raises InvalidText for what is no str."""
    if not isinstance(text, str):
        raise InvalidText(None, None)


def show(program):
    """The shown text of a program."""
    refuse_wrong_program(program)
    return "".join([f"{line}\n" for line in shown_page(program).lines])


def lines_of(program):
    """The pairs (PATH, LINE) of all statements, LINE being where the shown text begins them."""
    refuse_wrong_program(program)
    return tuple(shown_page(program).begun)


def shown_expression(program, proc, value):
    """The text of an expression of a procedure."""
    refuse_wrong_program(program)
    refuse_wrong_proc(program, proc)
    wrong = wrong_expression(kinds_in_sight(program, proc), value, (), 1)
    if wrong is not None:
        raise InvalidProgram(wrong)
    return expression_text(value, ANY_RANK)


def shown_condition(program, proc, value):
    """The text of a condition of a procedure."""
    refuse_wrong_program(program)
    refuse_wrong_proc(program, proc)
    wrong = wrong_condition(kinds_in_sight(program, proc), value, (), 1)
    if wrong is not None:
        raise InvalidProgram(wrong)
    return condition_text(value, ANY_RANK)
