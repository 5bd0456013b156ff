"""Lines in which the atoms of one name are replaced by a formula."""

from countproofs.formulas import dual_of, is_in_bounds, plain_atom
from countproofs.lines import Line


class Filling:
    """Puts a formula in the place of a name's plain atoms, and its dual in that of the turned ones.

    What has been filled in already is kept, as the same formulas stand in many lines; None
    stands for what would not be in bounds.
    """

    def __init__(self, name, formula):
        plain = plain_atom(name)
        turned = dual_of(plain)
        self.words = {plain[0]: formula, turned[0]: dual_of(formula)}
        self.done = {}

    def filled(self, formula):
        """A formula with this filling, or None if it would not be in bounds then."""
        if formula not in self.done:
            self.done[formula] = self.newly_filled(formula)
        return self.done[formula]

    def newly_filled(self, formula):
        """The same, for a formula that is not kept."""
        if not any([word in formula for word in self.words]):
            return formula
        grown = []
        for word in formula:
            grown.extend(self.words.get(word, (word,)))
        return tuple(grown) if is_in_bounds(grown) else None

    def filled_line(self, line):
        """A line with this filling, or None if one of its formulas would not be in bounds."""
        sequent = [self.filled(old) for old in line.sequent]
        if any([grown is None for grown in sequent]):
            return None
        # The formula that a rule names stands in the sequent that it makes: here it is in bounds.
        formula = None if line.formula is None else self.filled(line.formula)
        return Line(line.kind, line.premises, line.places, formula, sequent)


def filled_lines(lines, name, formula):
    """Lines with the atoms of a name replaced, or None if a formula would not be in bounds."""
    filling = Filling(name, formula)
    found = []
    for line in lines:
        grown = filling.filled_line(line)
        if grown is None:
            return None
        found.append(grown)
    return found
