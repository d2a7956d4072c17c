"""Cuts a text into tokens, up to its first bad sign."""

from soundlooks.basics import FIGURES, LETTERS, LETTERS_AND_FIGURES, MOST_FIGURES, MOST_SIGNS_OF_NAME

LONG_SIGNS = ("==", "!=", "<=")
SHORT_SIGNS = "(){}[],;=<+-*"


def cut(text):
    """A pair: the tokens ahead of the first bad sign, and its place, None if there is no bad sign."""
    found = []
    # No token goes on behind an end of line, so each line is cut by itself.
    for line, row in enumerate(text.split("\n"), start=1):
        at = token_from(row, 0)
        while at < len(row):
            behind, is_whole_token = cut_token(row, at)
            if not is_whole_token:
                return tuple(found), (line, behind + 1)
            found.append((row[at:behind], line, at + 1))
            at = token_from(row, behind)
    return tuple(found), None


def place_behind(text):
    """The place behind the last sign of a text."""
    rows = text.split("\n")
    return len(rows), len(rows[-1]) + 1


def token_from(row, at):
    """Where in a line the next token begins, from an index on; the end of the line, if none does."""
    while at < len(row) and row[at] == " ":
        at += 1
    if at < len(row) and row[at] == "#":
        return len(row)
    return at


def cut_token(row, at):
    """A pair: the index behind the token that begins at an index, and True; or that of a bad sign, and False."""
    if row[at] in LETTERS:
        return cut_run(row, at, LETTERS_AND_FIGURES, MOST_SIGNS_OF_NAME)
    if row[at] == "0":
        return cut_run(row, at, FIGURES, 1)
    if row[at] in FIGURES:
        return cut_run(row, at, FIGURES, MOST_FIGURES)
    if row[at:at + 2] in LONG_SIGNS:
        return at + 2, True
    if row[at] in SHORT_SIGNS:
        return at + 1, True
    return at, False


def cut_run(row, at, signs, most):
    """As cut_token, for a run of at most so many of these signs."""
    behind = at
    while behind < len(row) and behind < at + most and row[behind] in signs:
        behind += 1
    is_broken_off = behind < len(row) and row[behind] in LETTERS_AND_FIGURES
    return behind, not is_broken_off
