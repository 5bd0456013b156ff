"""The program against a second reading of the document, on many made inputs."""

import random
import unittest

import deskcalls
import second_reading
from made_inputs import made_formula, made_line, spoiled
from second_reading import KINDS, SecondProof

class SecondReading(unittest.TestCase):
    def test_formulas(self):
        source = random.Random(1)
        read = 0
        for _ in range(4000):
            text = made_formula(source, source.choice([1, 2, 3, 6, 20, 55, 64]))
            for _ in range(source.choice([0, 0, 1, 2])):
                text = spoiled(source, text)
            tree = second_reading.read(text)
            read += tree is not None
            self.assertEqual(deskcalls.form(text), None if tree is None else second_reading.form(tree), text)
        self.assertTrue(1000 < read < 3900, read)

    def test_sessions(self):
        reasons = {}
        for seed in range(120):
            source = random.Random(seed)
            second = SecondProof()
            calls, expected = [], []
            for _ in range(source.choice([10, 60, 150])):
                text = made_line(source, second)
                reason = second.add(text)
                reasons[reason] = reasons.get(reason, 0) + 1
                calls.append(deskcalls.line(text))
                expected.append([-reason] if reason else [len(second.lines)])
            for number in range(len(second.lines)):
                kind, premises = second.lines[number][:2]
                calls += [deskcalls.sequent(number), deskcalls.rule(number), deskcalls.under(number)]
                below = second.under(number)
                expected += [deskcalls.counted_text(second.sequent(number)),
                             [KINDS.index(kind), len(premises)] + premises, [len(below)] + below]
            calls += [deskcalls.TEXT, deskcalls.OPEN]
            expected += [deskcalls.counted_text(second.text()), [len(second.open_lines())] + second.open_lines()]
            self.assertEqual(deskcalls.run(*calls), expected, seed)
            self.assertEqual(deskcalls.run(deskcalls.proof(second.text())), [[0, len(second.lines)]])
        self.assertEqual(sorted(reasons), [0, 1, 2, 3, 4, 5, 6], reasons)


if __name__ == "__main__":
    unittest.main()
