"""Calls as lists of numbers, and answers cut into one list for each call."""

from countproofs.desk import answers


def codes(text):
    return list(text) if isinstance(text, (bytes, list)) else list(text.encode("latin-1"))


def row(text):
    numbers = codes(text)
    return [len(numbers)] + numbers


def proof(text):
    return [0] + row(text)


def line(text):
    return [1] + row(text)


DROP = [2]
TEXT = [3]
OPEN = [6]


def sequent(number):
    return [4, number]


def rule(number):
    return [5, number]


def under(number):
    return [7, number]


def cut_up(given_back):
    found = []
    place = 0
    while place < len(given_back):
        length = given_back[place]
        found.append(given_back[place + 1:place + 1 + length])
        assert len(found[-1]) == length and length >= 1
        place += 1 + length
    return found


def run(*calls):
    """The answers of some calls on a new object, one list for each."""
    found = cut_up(answers([number for call in calls for number in call]))
    assert len(found) == len(calls)
    return found


def lines(*texts):
    """The call that reads a proof of these lines."""
    return proof("".join(text + "\n" for text in texts))


def counted_text(text):
    return row(text)


def sequents(*texts):
    """The forms of the sequents of a faultless proof of these lines."""
    found = run(lines(*texts), *[sequent(number) for number in range(len(texts))])
    assert found[0] == [0, len(texts)], found[0]
    return [bytes(answer[1:]).decode() for answer in found[1:]]


def last_sequent(*texts):
    return sequents(*texts)[-1]


def reason(text, *standing):
    """The reason of a line's fault behind lines that stand; 0 if it has none."""
    found = run(lines(*standing), line(text))
    assert found[0] == [0, len(standing)], found[0]
    return 0 if found[1] == [len(standing) + 1] else -found[1][0]


def form(text):
    """The form of what a text is read as, or None if it is read as no formula in bounds."""
    found = run(line("ax " + text), TEXT)
    if found[0] == [-1]:
        return None
    assert found[0] == [1], found[0]
    return bytes(found[1][1:]).decode()[len("ax "):-1]
