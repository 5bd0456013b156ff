"""The lines of a proof: how they are written and read, and their faults."""

from countproofs.formulas import form_of
from countproofs.reading import read_bounded
from countproofs.rules import made_sequent, rule_fits
from countproofs.sequents import is_sequent
from countproofs.texts import decimal_value, is_decimal

KINDS = ("ax", "cut", "tensor", "par", "with", "plus1", "plus2", "der", "weak", "con", "prom", "ex")

# What stands behind the kind, a letter for each: i and j premises, p and q places, A a formula.
FIELDS = {
    "ax": "A",
    "cut": "ipjq",
    "tensor": "ipjq",
    "par": "ipq",
    "with": "ipjq",
    "plus1": "ipA",
    "plus2": "ipA",
    "der": "ip",
    "weak": "iA",
    "con": "ipq",
    "prom": "ip",
    "ex": "ipq",
}

MOST_LINES = 200

NO_FAULT = 0
NO_LINE = 1
NO_PREMISE = 2
USED_PREMISE = 3
NO_PLACE = 4
NO_FIT = 5
NO_ROOM_IN_SEQUENT = 6
NO_ROOM_IN_PROOF = 7


class Line:
    """A line: its rule's kind, premises, places and formula, and the sequent that it makes.

    A line that stands in a proof is not changed any more, so lines may share what is the
    same in them.
    """

    def __init__(self, kind, premises, places, formula, sequent):
        self.kind = kind
        self.premises = premises
        self.places = places
        self.formula = formula
        self.sequent = sequent

    def take_field(self, letter, text):
        """Whether a text is a field of this letter; if so, the line has it."""
        if letter == "A":
            self.formula = read_bounded(text)
            return self.formula is not None
        if not is_decimal(text):
            return False
        row = self.premises if letter in "ij" else self.places
        row.append(decimal_value(text))
        return True

    def field(self, letter):
        """How the field of this letter is written."""
        if letter == "A":
            return form_of(self.formula)
        if letter in "ij":
            return str(self.premises["ij".index(letter)])
        return str(self.places["pq".index(letter)])

    def written(self):
        """The line's text."""
        return " ".join([self.kind] + [self.field(letter) for letter in FIELDS[self.kind]])


def read_line(text):
    """The line that a text is, without its sequent, or None if it is no line."""
    kind = text.partition(" ")[0]
    if kind not in FIELDS:
        return None
    letters = FIELDS[kind]
    # The last field is all the rest: a formula may have blanks, and a number with one is none.
    texts = text.split(" ", len(letters))[1:]
    if len(texts) != len(letters):
        return None
    line = Line(kind, [], [], None, [])
    for letter, field_text in zip(letters, texts):
        if not line.take_field(letter, field_text):
            return None
    return line


def add_line(lines, text):
    """Put the line that a text is behind the others; the reason if it has a fault, else no fault."""
    line = read_line(text)
    if line is None:
        return NO_LINE
    reason = premise_fault(line, lines)
    if reason != NO_FAULT:
        return reason
    sequents = [lines[premise].sequent for premise in line.premises]
    reason = rule_fault(line, sequents)
    if reason != NO_FAULT:
        return reason
    line.sequent = made_sequent(line, sequents)
    if not is_sequent(line.sequent):
        return NO_ROOM_IN_SEQUENT
    if len(lines) >= MOST_LINES:
        return NO_ROOM_IN_PROOF
    lines.append(line)
    return NO_FAULT


def premise_fault(line, lines):
    """The fault of a line's premises, or no fault."""
    if any([premise >= len(lines) for premise in line.premises]):
        return NO_PREMISE
    used = used_lines(lines)
    if any([premise in used for premise in line.premises]):
        return USED_PREMISE
    if len(line.premises) == 2 and line.premises[0] == line.premises[1]:
        return USED_PREMISE
    return NO_FAULT


def used_lines(lines):
    """The numbers of the lines that are premises, as keys."""
    used = {}
    for line in lines:
        for premise in line.premises:
            used[premise] = True
    return used


def rule_fault(line, sequents):
    """The fault of a line's places or of its rule, or no fault."""
    if not places_stand(line, sequents):
        return NO_PLACE
    if not rule_fits(line, sequents):
        return NO_FIT
    return NO_FAULT


def places_stand(line, sequents):
    """Whether the line's places are places of its premises, and two in one premise differ."""
    if line.places and line.places[0] >= len(sequents[0]):
        return False
    if len(line.places) == 2 and line.places[1] >= len(sequents[-1]):
        return False
    in_one_premise = len(line.places) == 2 and len(sequents) == 1
    return not (in_one_premise and line.places[0] == line.places[1])


def renumbered(line, numbers):
    """A line whose premises have new numbers; numbers tells them for the old ones."""
    premises = [numbers[premise] for premise in line.premises]
    return Line(line.kind, premises, line.places, line.formula, line.sequent)


def written_lines(lines):
    """The text of some lines, each with its end."""
    return "".join([line.written() + "\n" for line in lines])
