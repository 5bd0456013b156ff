"""How a text is read as a formula."""

from countproofs.formulas import PAR, SIGNS_OF_ONE, SIGNS_OF_TWO, TURNED
from countproofs.formulas import dual_of, is_in_bounds, of_one, of_two, plain_atom
from countproofs.texts import DIGITS, SMALL_LETTERS, is_name

ARROW = "-o"
BLANK = " "
SINGLE_TOKENS = "~*|&+!?()"
MOST_BYTES = 2000
MOST_WAITING = 100


def read_bounded(text):
    """The formula in bounds that a text is read as, or None."""
    formula = read_formula(text)
    if formula is None or not is_in_bounds(formula):
        return None
    return formula


def read_formula(text):
    """The formula that a text is read as, or None."""
    if len(text) > MOST_BYTES:
        return None
    tokens = tokens_of(text)
    if tokens is None:
        return None
    reader = Reader()
    for token in tokens:
        if not reader.take(token):
            return None
    return reader.whole()


def tokens_of(text):
    """The tokens of a text, or None if it can't be cut into tokens."""
    tokens = []
    place = 0
    while place < len(text):
        token = token_at(text, place)
        if token == "":
            return None
        if token != BLANK:
            tokens.append(token)
        place += len(token)
    return tokens


def token_at(text, place):
    """The token or the blank that begins at a place, or the empty text."""
    if text[place] == BLANK or text[place] in SINGLE_TOKENS:
        return text[place]
    if text.startswith(ARROW, place):
        return ARROW
    stretch = stretch_at(text, place)
    return stretch if is_name(stretch) else ""


def stretch_at(text, place):
    """The longest stretch of small letters and digits from a place on."""
    end = place
    while end < len(text) and text[end] in SMALL_LETTERS + DIGITS:
        end += 1
    return text[place:end]


class Reader:
    """A formula that is read token by token.

    What is open waits in a list, with the formula that stands before it (None before
    a bracket or a prefix); so the list's length is how many are open at this place.
    """

    def __init__(self):
        self.waiting = []
        self.formula = None

    def take(self, token):
        """Whether a token may stand here; if so, it is read."""
        if self.formula is None:
            fits = self.begin_part(token)
        else:
            fits = self.follow_part(token)
        return fits and len(self.waiting) <= MOST_WAITING

    def begin_part(self, token):
        """Read a token where a part has to begin."""
        if token == "(" or token == TURNED or token in SIGNS_OF_ONE:
            self.wait(token)
            return True
        if not is_name(token):
            return False
        self.formula = plain_atom(token)
        self.end_part()
        return True

    def follow_part(self, token):
        """Read a token behind the end of a part."""
        if token in SIGNS_OF_TWO:
            return self.lengthen_chain(token)
        if token == ARROW:
            self.end_chain()
            self.wait(token)
            return True
        return token == ")" and self.end_bracket()

    def lengthen_chain(self, sign):
        """Read a chain's sign, which must be that of the chain so far."""
        last = self.last_waiting()
        if last in SIGNS_OF_TWO and last != sign:
            return False
        self.wait(sign)
        return True

    def wait(self, token):
        """Let a token wait for what comes behind it."""
        self.waiting.append((token, self.formula))
        self.formula = None

    def last_waiting(self):
        """The token that was opened last, or the empty text."""
        return self.waiting[-1][0] if self.waiting else ""

    def end_part(self):
        """Put the prefixes before the part that has ended."""
        while self.last_waiting() == TURNED or self.last_waiting() in SIGNS_OF_ONE:
            token = self.waiting.pop()[0]
            self.formula = dual_of(self.formula) if token == TURNED else of_one(token, self.formula)

    def end_chain(self):
        """Put the chain that has ended together from its last part on."""
        while self.last_waiting() in SIGNS_OF_TWO:
            pair = self.waiting.pop()
            self.formula = of_two(pair[0], pair[1], self.formula)

    def end_formula(self):
        """Put the formula that has ended together from its last chain on."""
        self.end_chain()
        while self.last_waiting() == ARROW:
            before = self.waiting.pop()[1]
            self.formula = of_two(PAR, dual_of(before), self.formula)

    def end_bracket(self):
        """Whether a ) may stand here; if so, its ( ends."""
        self.end_formula()
        if self.last_waiting() != "(":
            return False
        self.waiting.pop()
        self.end_part()
        return True

    def whole(self):
        """The formula if the text ends here, or None."""
        if self.formula is None:
            return None
        self.end_formula()
        return None if self.waiting else self.formula
