"""Calls as lists of numbers, and answers cut into one list for each call."""

from countproofs.desk import answers


def codes(text):
    return list(text) if isinstance(text, (bytes, list)) else list(text.encode("latin-1"))


def row(text):
    numbers = codes(text)
    return [len(numbers)] + numbers


def proof(text):
    return [0] + row(text)


def line(text):
    return [1] + row(text)


DROP = [2]
TEXT = [3]
OPEN = [6]
SPREAD = [14]

FAR = 10 ** 18
EXAMPLE = ("ax a", "ax b", "tensor 0 0 1 0", "par 2 0 1")
EVERY_KIND = (
    "ax a", "ax ~a", "cut 0 0 1 0", "ax b", "tensor 2 0 3 1", "par 4 0 1", "ax c", "ax c", "with 6 1 7 1", "plus1 8 0 d&e",
    "plus2 9 1 d|e", "der 10 0", "weak 11 f*g", "weak 12 f*g", "con 13 2 3", "ax !h", "prom 15 0", "ex 14 0 2",
)


def sequent(number):
    return [4, number]


def rule(number):
    return [5, number]


def under(number):
    return [7, number]


def facts(number):
    return [8, number]


def find(text):
    return [9] + row(text)


def part(number):
    return [10, number]


def keep(number):
    return [11, number]


def rename(old, new):
    return [12] + row(old) + row(new)


def fill(name, formula):
    return [13] + row(name) + row(formula)


def balance(number):
    return [15, number]


def every_question(count):
    """The calls that ask all there is to ask of a proof with this many lines."""
    asked = [TEXT, OPEN]
    for number in range(count):
        asked += [call(number) for call in (sequent, rule, under, facts, part, balance)]
    return asked


def all_told(count, *calls):
    """What a proof with this many lines tells behind some calls."""
    return run(*calls, *every_question(count))[len(calls):]


def balanced(atoms, atom="a"):
    """A formula of this many atoms that is as flat as can be."""
    if atoms == 1:
        return atom
    return "(" + balanced(atoms // 2, atom) + "*" + balanced(atoms - atoms // 2, atom) + ")"


def weakened(count):
    """The lines of a proof whose last sequent has this many formulas."""
    return ["ax a"] + [f"weak {number} b" for number in range(count - 2)]


def written(texts):
    """The text of a proof of these lines."""
    return "".join(text + "\n" for text in texts)


def cut_up(given_back):
    found = []
    place = 0
    while place < len(given_back):
        length = given_back[place]
        found.append(given_back[place + 1:place + 1 + length])
        assert len(found[-1]) == length and length >= 1
        place += 1 + length
    return found


def run(*calls):
    """The answers of some calls on a new object, one list for each."""
    found = cut_up(answers([number for call in calls for number in call]))
    assert len(found) == len(calls)
    return found


def lines(*texts):
    """The call that reads a proof of these lines."""
    return proof(written(texts))


def counted_text(text):
    return row(text)


def sequents(*texts):
    """The forms of the sequents of a faultless proof of these lines."""
    found = run(lines(*texts), *[sequent(number) for number in range(len(texts))])
    assert found[0] == [0, len(texts)], found[0]
    return [bytes(answer[1:]).decode() for answer in found[1:]]


def last_sequent(*texts):
    return sequents(*texts)[-1]


def reason(text, *standing):
    """The reason of a line's fault behind lines that stand; 0 if it has none."""
    found = run(lines(*standing), line(text))
    assert found[0] == [0, len(standing)], found[0]
    return 0 if found[1] == [len(standing) + 1] else -found[1][0]


def form(text):
    """The form of what a text is read as, or None if it is read as no formula in bounds."""
    found = run(line("ax " + text), TEXT)
    if found[0] == [-1]:
        return None
    assert found[0] == [1], found[0]
    return bytes(found[1][1:]).decode()[len("ax "):-1]
