"""Texts as lists of bytes, as Python's own texts, and as names and numbers."""

SMALL_LETTERS = "abcdefghijklmnopqrstuvwxyz"
DIGITS = "0123456789"
OTHER_SIGNS = "~*|&+!?()-, \n"
UNREAD_SIGN = "#"
LONGEST_NAME = 12
LONGEST_DECIMAL = 9
PAST_ALL = 1000000000


def text_of(numbers):
    """The text of these bytes, with one sign for each byte.

    Bytes that stand in no line, formula or sequent all become one sign that is never read,
    so that the text keeps its length.
    """
    signs = {}
    for sign in SMALL_LETTERS + DIGITS + OTHER_SIGNS:
        signs[ord(sign)] = sign
    return "".join([signs.get(number, UNREAD_SIGN) for number in numbers])


def numbers_of(text):
    """The bytes of a text."""
    return [ord(sign) for sign in text]


def is_name(text):
    """Whether a text is a name."""
    if not 1 <= len(text) <= LONGEST_NAME or text[0] not in SMALL_LETTERS:
        return False
    return all([sign in SMALL_LETTERS + DIGITS for sign in text])


def is_decimal(text):
    """Whether a text is a number in decimal without needless zeros."""
    return text.isdigit() and (text == "0" or text[0] != "0")


def decimal_value(text):
    """The number that is written so, or one past every line and place if it is long."""
    # Python fails on a text of some thousand digits.
    if len(text) > LONGEST_DECIMAL:
        return PAST_ALL
    return int(text)
