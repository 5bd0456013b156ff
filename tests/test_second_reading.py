"""The program against a second reading of the document, on many made inputs."""

import random
import unittest

import deskcalls
import second_reading
from second_reading import KINDS, NUMBERS, WITH_FORMULA, SecondProof

MARKS = ("~", "!", "?")


def made_formula(source, size):
    """A text that is nearly always a formula, of about this many atoms."""
    if size <= 1:
        text = source.choice(["a", "b", "c", "a1", "o"])
    elif source.random() < 0.3:
        sign = source.choice(["-o", " -o "])
        text = made_formula(source, size // 2) + sign + made_formula(source, size - size // 2)
        text = f"({text})" if source.random() < 0.8 else text
    else:
        sign = source.choice("*|&+")
        count = source.randint(2, min(size, 4))
        text = "(" + sign.join(made_formula(source, size // count) for _ in range(count)) + ")"
    while source.random() < 0.3:
        text = source.choice(MARKS) + text
    if text[0] == "(" and source.random() < 0.05:
        text = text[1:-1]
    return text


def spoiled(source, text):
    """The text with one byte more, less or other."""
    place = source.randrange(len(text) + 1)
    extra = source.choice(["", " ", "a", "0", "*", "|", "(", ")", "~", "!", "-o", "-", "#", "\n", "~" * 99, "(" * 99])
    return text[:place] + extra + text[place + source.randint(0, 1):]


def made_line(source, lines):
    """A text that is often a line behind some lines."""
    kind = source.choice(KINDS)
    open_numbers = lines.open_lines()
    words = [kind]
    for turn in range(NUMBERS[kind]):
        # Premises and places take turns where there are four numbers, else the first is the premise.
        if turn == 0 or (turn == 2 and NUMBERS[kind] == 4):
            near = source.random() < 0.95 and open_numbers
            words.append(str(source.choice(open_numbers) if near else source.randint(0, len(lines.lines) + 1)))
        else:
            words.append(str(source.choice([0, 0, 0, 1, 1, 1, 2, 2, 3, 9])))
    if kind in WITH_FORMULA:
        words.append(made_formula(source, source.choice([1, 1, 1, 2, 3, 12, 40])))
    text = " ".join(words)
    return spoiled(source, text) if source.random() < 0.05 else text


class SecondReading(unittest.TestCase):
    def test_formulas(self):
        source = random.Random(1)
        read = 0
        for _ in range(4000):
            text = made_formula(source, source.choice([1, 2, 3, 6, 20, 55, 64]))
            for _ in range(source.choice([0, 0, 1, 2])):
                text = spoiled(source, text)
            tree = second_reading.read(text)
            read += tree is not None
            self.assertEqual(deskcalls.form(text), None if tree is None else second_reading.form(tree), text)
        self.assertTrue(1000 < read < 3900, read)

    def test_sessions(self):
        reasons = {}
        for seed in range(120):
            source = random.Random(seed)
            second = SecondProof()
            calls, expected = [], []
            for _ in range(source.choice([10, 60, 150])):
                text = made_line(source, second)
                reason = second.add(text)
                reasons[reason] = reasons.get(reason, 0) + 1
                calls.append(deskcalls.line(text))
                expected.append([-reason] if reason else [len(second.lines)])
            for number in range(len(second.lines)):
                kind, premises = second.lines[number][:2]
                calls += [deskcalls.sequent(number), deskcalls.rule(number), deskcalls.under(number)]
                below = second.under(number)
                expected += [deskcalls.counted_text(second.sequent(number)),
                             [KINDS.index(kind), len(premises)] + premises, [len(below)] + below]
            calls += [deskcalls.TEXT, deskcalls.OPEN]
            expected += [deskcalls.counted_text(second.text()), [len(second.open_lines())] + second.open_lines()]
            self.assertEqual(deskcalls.run(*calls), expected, seed)
            self.assertEqual(deskcalls.run(deskcalls.proof(second.text())), [[0, len(second.lines)]])
        self.assertEqual(sorted(reasons), [0, 1, 2, 3, 4, 5, 6], reasons)


if __name__ == "__main__":
    unittest.main()
