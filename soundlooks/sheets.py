"""Looks as texts."""


def look_lines(sight, view):
    """The tuple of the texts that show a look."""
    if view is None:
        return ("none",)
    spans, residues, gaps, lines, cells = view
    names = [pair[0] for pair in sight[0]]
    told = [f"{name}: {pair_text(span, residue)}" for name, span, residue in zip(names, spans, residues)]
    told.extend(bound_lines(["0"] + names, gaps))
    told.extend([equation_text(names, row) for row in lines])
    told.extend([f"{pair[0]}[]: {pair_text(span, residue)}" for pair, (span, residue) in zip(sight[1], cells)])
    return tuple(told)


def pair_text(span, residue):
    """The text of a stretch and a rest."""
    low, high = [end_text(end) for end in span]
    number, divisor = residue
    told = f"just {number}" if divisor == 0 else f"{number} mod {divisor}"
    return f"{low} .. {high}, {told}"


def end_text(end):
    """The text of an end of a stretch."""
    return "any" if end is None else str(end)


def bound_lines(names, gaps):
    """The texts of the bounds of differences that are numbers, names standing for the indexes."""
    return [
        f"{names[i]} - {names[j]} <= {bound}"
        for i, row in enumerate(gaps)
        for j, bound in enumerate(row)
        if i != j and bound is not None
    ]


def equation_text(names, row):
    """The text of a row of equations."""
    told = ""
    for name, number in zip(names, row):
        if number != 0:
            told += term_text(name, number, told == "")
    return f"{told} = {row[-1]}"


def term_text(name, number, is_first):
    """The text of a name times a number other than 0, ahead of or behind others."""
    size = "" if number in (1, -1) else f"{abs(number)} "
    if is_first:
        sign = "-" if number < 0 else ""
    else:
        sign = " - " if number < 0 else " + "
    return f"{sign}{size}{name}"
