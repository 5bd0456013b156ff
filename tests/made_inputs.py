"""Made formulas and lines, many of them good, some a little spoiled."""

from second_reading import KINDS, NUMBERS, WITH_FORMULA

MARKS = ("~", "!", "?")


def made_formula(source, size):
    """A text that is nearly always a formula, of about this many atoms."""
    if size <= 1:
        text = source.choice(["a", "b", "c", "a1", "o"])
    elif source.random() < 0.3:
        sign = source.choice(["-o", " -o "])
        text = made_formula(source, size // 2) + sign + made_formula(source, size - size // 2)
        text = f"({text})" if source.random() < 0.8 else text
    else:
        sign = source.choice("*|&+")
        count = source.randint(2, min(size, 4))
        text = "(" + sign.join(made_formula(source, size // count) for _ in range(count)) + ")"
    while source.random() < 0.3:
        text = source.choice(MARKS) + text
    if text[0] == "(" and source.random() < 0.05:
        text = text[1:-1]
    return text


def spoiled(source, text):
    """The text with one byte more, less or other."""
    place = source.randrange(len(text) + 1)
    extra = source.choice(["", " ", "a", "0", "*", "|", "(", ")", "~", "!", "-o", "-", "#", "\n", "~" * 99, "(" * 99])
    return text[:place] + extra + text[place + source.randint(0, 1):]


def made_line(source, lines):
    """A text that is often a line behind some lines."""
    kind = source.choice(KINDS)
    open_numbers = lines.open_lines()
    words = [kind]
    for turn in range(NUMBERS[kind]):
        # Premises and places take turns where there are four numbers, else the first is the premise.
        if turn == 0 or (turn == 2 and NUMBERS[kind] == 4):
            near = source.random() < 0.95 and open_numbers
            words.append(str(source.choice(open_numbers) if near else source.randint(0, len(lines.lines) + 1)))
        else:
            words.append(str(source.choice([0, 0, 0, 1, 1, 1, 2, 2, 3, 9])))
    if kind in WITH_FORMULA:
        words.append(made_formula(source, source.choice([1, 1, 1, 2, 3, 12, 40])))
    text = " ".join(words)
    return spoiled(source, text) if source.random() < 0.05 else text
