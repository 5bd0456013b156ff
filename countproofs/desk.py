"""The calls on one proof, laid out in one list of whole numbers, and their answers."""

from countproofs.formulas import forms_of
from countproofs.lines import KINDS, NO_FAULT
from countproofs.proofs import Proof
from countproofs.texts import numbers_of, text_of

NO_SUCH_LINE = -2
NOTHING_TO_DROP = -8


def counted(numbers):
    """A list with its length before it."""
    return [len(numbers)] + numbers


def call_proof(proof, given):
    """Read a whole proof."""
    fault = proof.become(text_of(given[0]))
    if fault[1] != NO_FAULT:
        return list(fault)
    return [0, len(proof.lines)]


def call_line(proof, given):
    """Add a line."""
    reason = proof.grow(text_of(given[0]))
    if reason != NO_FAULT:
        return [-reason]
    return [len(proof.lines)]


def call_drop(proof, given):
    """Take the last line away."""
    if not proof.lines:
        return [NOTHING_TO_DROP]
    proof.shrink()
    return [len(proof.lines)]


def call_text(proof, given):
    """The proof's text."""
    return counted(numbers_of(proof.written()))


def call_sequent(proof, given):
    """The form of a line's sequent."""
    if not proof.has_line(given[0]):
        return [NO_SUCH_LINE]
    form = ", ".join(forms_of(proof.lines[given[0]].sequent))
    return counted(numbers_of(form))


def call_rule(proof, given):
    """The number of a line's kind and its premises."""
    if not proof.has_line(given[0]):
        return [NO_SUCH_LINE]
    line = proof.lines[given[0]]
    return [KINDS.index(line.kind)] + counted(line.premises)


def call_unused(proof, given):
    """The lines that are no premises."""
    return counted(proof.unused())


def call_under(proof, given):
    """The lines under a line."""
    if not proof.has_line(given[0]):
        return [NO_SUCH_LINE]
    return counted(proof.under(given[0]))


# For each call by its number: what answers it, how many whole numbers and how many rows it is given.
CALLS = (
    (call_proof, 0, 1),
    (call_line, 0, 1),
    (call_drop, 0, 0),
    (call_text, 0, 0),
    (call_sequent, 1, 0),
    (call_rule, 1, 0),
    (call_unused, 0, 0),
    (call_under, 1, 0),
)


class Tape:
    """A list of numbers that is gone through once, from its beginning."""

    def __init__(self, numbers):
        self.numbers = numbers
        self.place = 0

    def is_over(self):
        """Whether nothing is left."""
        return self.place >= len(self.numbers)

    def take_number(self):
        """The number that comes."""
        self.place += 1
        return self.numbers[self.place - 1]

    def take_row(self):
        """The row that comes behind its length."""
        length = self.take_number()
        self.place += length
        return self.numbers[self.place - length:self.place]


def answer_of(proof, tape):
    """What the call that comes on the tape answers."""
    call = CALLS[tape.take_number()]
    whole_numbers = [tape.take_number() for turn in range(call[1])]
    rows = [tape.take_row() for turn in range(call[2])]
    answering = call[0]
    return answering(proof, whole_numbers + rows)


def answers(calls):
    """The answers of calls on a new proof, one behind another, each behind its length."""
    proof = Proof()
    tape = Tape(calls)
    given_back = []
    while not tape.is_over():
        given_back.extend(counted(answer_of(proof, tape)))
    return given_back
