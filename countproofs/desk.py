"""The calls on one proof, laid out in one list of whole numbers, and their answers."""

from countproofs.formulas import plain_atom
from countproofs.lines import KINDS, NO_FAULT, written_lines
from countproofs.proofs import Proof
from countproofs.reading import read_bounded
from countproofs.sequents import balance_of, read_sequent, sequent_form
from countproofs.texts import is_name, numbers_of, text_of

NOT_READ = -1
NO_SUCH_LINE = -2
NOT_IN_BOUNDS = -6
TOO_MANY_LINES = -7
NOTHING_TO_DROP = -8


def counted(numbers):
    """A list with its length before it."""
    return [len(numbers)] + numbers


def call_proof(proof, given):
    """Read a whole proof."""
    fault = proof.become(text_of(given[0]))
    if fault[1] != NO_FAULT:
        return list(fault)
    return [0, len(proof.lines)]


def call_line(proof, given):
    """Add a line."""
    reason = proof.grow(text_of(given[0]))
    if reason != NO_FAULT:
        return [-reason]
    return [len(proof.lines)]


def call_drop(proof, given):
    """Take the last line away."""
    if not proof.lines:
        return [NOTHING_TO_DROP]
    proof.shrink()
    return [len(proof.lines)]


def call_text(proof, given):
    """The proof's text."""
    return counted(numbers_of(written_lines(proof.lines)))


def call_sequent(proof, given):
    """The form of a line's sequent."""
    return counted(numbers_of(sequent_form(proof.lines[given[0]].sequent)))


def call_rule(proof, given):
    """The number of a line's kind and its premises."""
    line = proof.lines[given[0]]
    return [KINDS.index(line.kind)] + counted(line.premises)


def call_unused(proof, given):
    """The lines that are no premises."""
    return counted(proof.unused())


def call_under(proof, given):
    """The lines under a line."""
    return counted(proof.under(given[0]))


def call_facts(proof, given):
    """A line's height, and how many lines under it each kind has."""
    return [proof.height(given[0])] + proof.kind_counts(given[0])


def call_find(proof, given):
    """The lines that have a sequent."""
    sequent = read_sequent(text_of(given[0]))
    if sequent is None:
        return [NOT_READ]
    return counted(proof.lines_with(sequent))


def call_part(proof, given):
    """The text of the proof of one line."""
    return counted(numbers_of(written_lines(proof.part(given[0]))))


def call_keep(proof, given):
    """Keep the proof of one line alone."""
    proof.keep(given[0])
    return [len(proof.lines)]


def call_rename(proof, given):
    """Give the atoms of one name another name."""
    old = text_of(given[0])
    new = text_of(given[1])
    if not is_name(old) or not is_name(new):
        return [NOT_READ]
    # An atom in an atom's place leaves every formula as large as it was: this is never out of bounds.
    proof.fill(old, plain_atom(new))
    return [len(proof.lines)]


def call_fill(proof, given):
    """Replace the atoms of a name by a formula."""
    name = text_of(given[0])
    formula = read_bounded(text_of(given[1]))
    if not is_name(name) or formula is None:
        return [NOT_READ]
    if not proof.fill(name, formula):
        return [NOT_IN_BOUNDS]
    return [len(proof.lines)]


def call_spread(proof, given):
    """Spread the axioms out."""
    if not proof.spread():
        return [TOO_MANY_LINES]
    return [len(proof.lines)]


def call_balance(proof, given):
    """The names in a line's sequent, with how often each stands plain and turned."""
    balance = balance_of(proof.lines[given[0]].sequent)
    answer = [len(balance)]
    for name in sorted(balance):
        answer.extend(counted(numbers_of(name)) + balance[name])
    return answer


# For each call by its number: what answers it, how many whole numbers and how many rows it is given.
CALLS = (
    (call_proof, 0, 1),
    (call_line, 0, 1),
    (call_drop, 0, 0),
    (call_text, 0, 0),
    (call_sequent, 1, 0),
    (call_rule, 1, 0),
    (call_unused, 0, 0),
    (call_under, 1, 0),
    (call_facts, 1, 0),
    (call_find, 0, 1),
    (call_part, 1, 0),
    (call_keep, 1, 0),
    (call_rename, 0, 2),
    (call_fill, 0, 2),
    (call_spread, 0, 0),
    (call_balance, 1, 0),
)


class Tape:
    """A list of numbers that is gone through once, from its beginning."""

    def __init__(self, numbers):
        self.numbers = numbers
        self.place = 0

    def is_over(self):
        """Whether nothing is left."""
        return self.place >= len(self.numbers)

    def take_number(self):
        """The number that comes."""
        self.place += 1
        return self.numbers[self.place - 1]

    def take_row(self):
        """The row that comes behind its length."""
        length = self.take_number()
        self.place += length
        return self.numbers[self.place - length:self.place]


def answer_of(proof, tape):
    """What the call that comes on the tape answers."""
    call = CALLS[tape.take_number()]
    whole_numbers = [tape.take_number() for turn in range(call[1])]
    rows = [tape.take_row() for turn in range(call[2])]
    # The one whole number that a call may be given is a line's.
    if not all([proof.has_line(number) for number in whole_numbers]):
        return [NO_SUCH_LINE]
    answering = call[0]
    return answering(proof, whole_numbers + rows)


def answers(calls):
    """The answers of calls on a new proof, one behind another, each behind its length."""
    proof = Proof()
    tape = Tape(calls)
    given_back = []
    while not tape.is_over():
        given_back.extend(counted(answer_of(proof, tape)))
    return given_back
