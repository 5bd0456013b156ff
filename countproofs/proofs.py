"""Proofs: lists of lines that grow, shrink, change as a whole and tell what stands in them."""

from countproofs.filling import filled_lines
from countproofs.lines import KINDS, NO_FAULT, add_line, renumbered, used_lines
from countproofs.spreading import spread_lines


class Proof:
    """A proof, at the beginning one without lines."""

    def __init__(self):
        self.lines = []

    def has_line(self, number):
        """Whether a number is the number of a line."""
        return 0 <= number < len(self.lines)

    def become(self, text):
        """Be the proof of a text; its first faulty line's number plus 1 and the reason, or two zeros."""
        lines = []
        for line_text in line_texts(text):
            reason = add_line(lines, line_text)
            if reason != NO_FAULT:
                return (len(lines) + 1, reason)
        self.lines = lines
        return (0, NO_FAULT)

    def grow(self, text):
        """Have one more line, that of a text; the reason if it has a fault, else no fault."""
        return add_line(self.lines, text)

    def shrink(self):
        """Lose the last line."""
        self.lines.pop()

    def unused(self):
        """The numbers of the lines that are no premises, rising."""
        used = used_lines(self.lines)
        return [number for number in range(len(self.lines)) if number not in used]

    def under(self, number):
        """The numbers of the lines under a line, rising."""
        found = {number: True}
        # Premises come earlier: a walk downwards meets each line after all that it hangs on.
        for above in range(number, -1, -1):
            if above in found:
                for premise in self.lines[above].premises:
                    found[premise] = True
        return sorted(found)

    def height(self, number):
        """The height of a line."""
        heights = []
        for line in self.lines[:number + 1]:
            heights.append(1 + max([heights[premise] for premise in line.premises], default=0))
        return heights[number]

    def kind_counts(self, number):
        """For each kind of rule, how many of the lines under a line are of it."""
        kinds = [self.lines[below].kind for below in self.under(number)]
        return [kinds.count(kind) for kind in KINDS]

    def lines_with(self, sequent):
        """The numbers of the lines that have just this sequent, rising."""
        return [number for number, line in enumerate(self.lines) if line.sequent == sequent]

    def part(self, number):
        """The lines under a line as lines of a proof of their own."""
        kept = self.under(number)
        numbers = {}
        for place, old in enumerate(kept):
            numbers[old] = place
        return [renumbered(self.lines[old], numbers) for old in kept]

    def keep(self, number):
        """Have only the lines under a line."""
        self.lines = self.part(number)

    def fill(self, name, formula):
        """Whether the atoms of a name may be replaced by a formula within bounds; if so, they are."""
        return self.change(filled_lines(self.lines, name, formula))

    def spread(self):
        """Whether the axioms may be spread out within the number of lines; if so, they are."""
        return self.change(spread_lines(self.lines))

    def change(self, lines):
        """Whether there are other lines, not None; if so, have them."""
        if lines is None:
            return False
        self.lines = lines
        return True


def line_texts(text):
    """The lines of a text, each ended by a row's end; the last one's may be missing."""
    pieces = text.split("\n")
    return pieces if pieces[-1] != "" else pieces[:-1]
