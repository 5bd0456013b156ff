"""Lines in which every axiom is spread out until only atoms stand in axioms."""

from countproofs.formulas import dual_of, parts_of
from countproofs.lines import MOST_LINES, Line, renumbered
from countproofs.rules import made_sequent

# How many lines a sign brings with it; an atom brings one.
LINES_OF_SIGN = {"*": 2, "|": 3, "&": 4, "+": 3, "!": 3, "?": 2}


def put(lines, kind, premises, places, formula):
    """Put a line whose rule fits behind the others; its number."""
    line = Line(kind, premises, places, formula, [])
    line.sequent = made_sequent(line, [lines[premise].sequent for premise in premises])
    lines.append(line)
    return len(lines) - 1


def put_tensor(lines, parts):
    """The lines of X tensor Y."""
    return put_joined(lines, parts, 0)


def put_par(lines, parts):
    """The lines of X par Y."""
    return put_exchange(lines, put_joined(lines, parts, 1))


def put_joined(lines, parts, place):
    """The lines of X and Y, the tensor at a place of both, and the par of what is left."""
    first = put_spread(lines, parts[0])
    second = put_spread(lines, parts[1])
    tensor = put(lines, "tensor", [first, second], [place, place], None)
    return put(lines, "par", [tensor], [0, 1], None)


def put_with(lines, parts):
    """The lines of X with Y."""
    duals = [dual_of(part) for part in parts]
    return put_exchange(lines, put_choice(lines, parts, duals, 1))


def put_plus(lines, parts):
    """The lines of X plus Y."""
    return put_choice(lines, parts, parts, 0)


def put_choice(lines, parts, choices, place):
    """The lines of X and Y, behind each the plus of the two choices at a place, and the with of what is left."""
    first = put_spread(lines, parts[0])
    first_plus = put(lines, "plus1", [first], [place], choices[1])
    second = put_spread(lines, parts[1])
    second_plus = put(lines, "plus2", [second], [place], choices[0])
    return put(lines, "with", [first_plus, second_plus], [0, 0], None)


def put_of_course(lines, parts):
    """The lines of of course X."""
    return put_exchange(lines, put_promoted(lines, parts, 1))


def put_why_not(lines, parts):
    """The lines of why not X."""
    return put_promoted(lines, parts, 0)


def put_promoted(lines, parts, place):
    """The lines of X, the why not at a place, and the of course of what is left."""
    last = put_spread(lines, parts[0])
    derelict = put(lines, "der", [last], [place], None)
    return put(lines, "prom", [derelict], [0], None)


def put_exchange(lines, number):
    """The exchange of the two formulas of a line."""
    return put(lines, "ex", [number], [0, 1], None)


SPREADERS = {"*": put_tensor, "|": put_par, "&": put_with, "+": put_plus, "!": put_of_course, "?": put_why_not}


def put_spread(lines, formula):
    """Put the lines that an axiom is spread out into behind the others; the last one's number."""
    if formula[0] not in SPREADERS:
        return put(lines, "ax", [], [], formula)
    spreader = SPREADERS[formula[0]]
    return spreader(lines, parts_of(formula))


def spread_size(formula):
    """How many lines an axiom is spread out into."""
    return sum([LINES_OF_SIGN.get(word, 1) for word in formula])


def have_room(lines):
    """Whether some lines, spread out, are not too many."""
    size = 0
    for line in lines:
        size += spread_size(line.formula) if line.kind == "ax" else 1
        if size > MOST_LINES:
            return False
    return True


def spread_lines(lines):
    """Lines with every axiom spread out, or None if they would be too many."""
    if not have_room(lines):
        return None
    found = []
    numbers = []
    for line in lines:
        if line.kind == "ax":
            numbers.append(put_spread(found, line.formula))
        else:
            found.append(renumbered(line, numbers))
            numbers.append(len(found) - 1)
    return found
