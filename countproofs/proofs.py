"""Proofs: lists of lines that grow, shrink and tell what stands in them."""

from countproofs.lines import NO_FAULT, add_line, used_lines


class Proof:
    """A proof, at the beginning one without lines."""

    def __init__(self):
        self.lines = []

    def has_line(self, number):
        """Whether a number is the number of a line."""
        return 0 <= number < len(self.lines)

    def become(self, text):
        """Be the proof of a text; its first faulty line's number plus 1 and the reason, or two zeros."""
        lines = []
        for line_text in line_texts(text):
            reason = add_line(lines, line_text)
            if reason != NO_FAULT:
                return (len(lines) + 1, reason)
        self.lines = lines
        return (0, NO_FAULT)

    def grow(self, text):
        """Have one more line, that of a text; the reason if it has a fault, else no fault."""
        return add_line(self.lines, text)

    def shrink(self):
        """Lose the last line."""
        self.lines.pop()

    def written(self):
        """The proof's text."""
        return "".join([line.written() + "\n" for line in self.lines])

    def unused(self):
        """The numbers of the lines that are no premises, rising."""
        used = used_lines(self.lines)
        return [number for number in range(len(self.lines)) if number not in used]

    def under(self, number):
        """The numbers of the lines under a line, rising."""
        found = {number: True}
        # Premises come earlier: a walk downwards meets each line after all that it hangs on.
        for above in range(number, -1, -1):
            if above in found:
                for premise in self.lines[above].premises:
                    found[premise] = True
        return sorted(found)


def line_texts(text):
    """The lines of a text, each ended by a row's end; the last one's may be missing."""
    pieces = text.split("\n")
    return pieces if pieces[-1] != "" else pieces[:-1]
