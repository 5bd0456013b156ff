"""Lists that mix all sixteen calls, with refused ones between: by hand, and made ones against the second reading."""

import random
import unittest

from deskcalls import (
    DROP, OPEN, SPREAD, TEXT, balance, codes, counted_text, facts, fill, find, keep, line, lines, part, proof, rename, rule, run,
    sequent, under, written)
from made_inputs import made_formula, made_line, spoiled
from second_reading import KINDS, SecondProof, is_name, read, read_proof

NAMES = ("a", "b", "c", "a1", "o", "ab", "abcdefghij12", "zz")
NO_NAMES = ("", "1", "a b", "~a", "A", "abcdefghijklm", "a\n")


def counted(numbers):
    return [len(numbers)] + list(numbers)


class ByHand(unittest.TestCase):
    def test_all_sixteen_with_refusals_between(self):
        session = (
            (DROP, [-8]),
            (SPREAD, [0]),
            (line("ax a -o b"), [1]),
            (line("par 0 0 0"), [-4]),
            (lines("ax a", "der 1 0"), [2, 2]),
            (TEXT, counted_text("ax ~a|b\n")),
            (lines("ax c", "ax a|b", "weak 0 ~a", "tensor 2 0 1 1"), [0, 4]),
            (line("der 1 0"), [-3]),
            (sequent(3), counted_text("~c, ?~a, a|b, c*~a*~b")),
            (rule(3), [2, 2, 2, 1]),
            (rule(4), [-2]),
            (OPEN, [1, 3]),
            (rename("a", "A"), [-1]),
            (fill("b", "!" * 39 + "b"), [-6]),
            (rename("c", "b"), [4]),
            (find("~b, ?~a, a|b, b*~(a|b)"), [1, 3]),
            (balance(3), [2, 1, 97, 1, 2, 1, 98, 2, 2]),
            (facts(3), [3, 2, 0, 1, 0, 0, 0, 0, 0, 1, 0, 0, 0]),
            (line("ax d"), [5]),
            (under(3), [4, 0, 1, 2, 3]),
            (part(2), counted_text("ax b\nweak 0 ~a\n")),
            (keep(5), [-2]),
            (fill("a", "d&"), [-1]),
            (fill("a", "~d"), [5]),
            (SPREAD, [9]),
            (TEXT, counted_text(written((
                "ax b", "ax ~d", "ax b", "tensor 1 1 2 1", "par 3 0 1", "ex 4 0 1", "weak 0 d", "tensor 6 0 5 1", "ax d")))),
            (keep(7), [8]),
            (balance(7), [2, 1, 98, 2, 2, 1, 100, 2, 1]),
            (line("ax d"), [9]),
            (DROP, [8]),
            (OPEN, [1, 7]),
            (keep(5), [5]),
            (sequent(4), counted_text("~d|b, d*~b")),
            (find(""), [0]),
            (find("~d|b,"), [-1]),
            (proof(""), [0, 0]),
            (facts(0), [-2]),
            (balance(0), [-2]),
            (part(-1), [-2]),
            (rename("a", "b"), [0]),
        )
        self.assertEqual(run(*[call for call, _ in session]), [answer for _, answer in session])
        self.assertEqual({call[0] for call, _ in session}, set(range(16)))


class Session:
    """Calls on a proof that the second reading answers as they are made."""

    def __init__(self, seed):
        self.source = random.Random(seed)
        self.proof = SecondProof()
        self.calls = []
        self.expected = []

    def ask(self, call, answer):
        self.calls.append(call)
        self.expected.append(answer)

    def count(self):
        return [len(self.proof.lines)]

    def number(self):
        """Nearly always a line's number."""
        count = len(self.proof.lines)
        if count == 0 or self.source.random() < 0.1:
            return self.source.choice([-1, count, count + 1, -count, 10 ** 18, -10 ** 18])
        return self.source.randrange(count)

    def name(self):
        return self.source.choice(NO_NAMES if self.source.random() < 0.1 else NAMES)

    def formula(self, sizes):
        text = made_formula(self.source, self.source.choice(sizes))
        return spoiled(self.source, text) if self.source.random() < 0.1 else text

    def make_line(self):
        text = made_line(self.source, self.proof)
        reason = self.proof.add(text)
        self.ask(line(text), [-reason] if reason else self.count())

    def make_proof(self):
        other = SecondProof()
        texts = []
        wanted = self.source.choice([0, 1, 5, 15])
        while len(other.lines) < wanted:
            text = made_line(self.source, other)
            if other.add(text) == 0 or self.source.random() < 0.02:
                texts.append(text)
        text = written(texts)
        text = text[:-1] if self.source.random() < 0.3 else text
        number, reason, found = read_proof(text)
        if reason:
            self.ask(proof(text), [number, reason])
            return
        self.proof = found
        self.ask(proof(text), [0] + self.count())

    def make_drop(self):
        if self.proof.lines:
            self.proof.lines.pop()
            self.ask(DROP, self.count())
        else:
            self.ask(DROP, [-8])

    def make_question(self):
        proof, number = self.proof, self.number()
        if not 0 <= number < len(proof.lines):
            call = self.source.choice((sequent, rule, under, facts, part, keep, balance))
            self.ask(call(number), [-2])
            return
        kind, premises = proof.lines[number][:2]
        self.ask(*self.source.choice((
            (TEXT, counted_text(proof.text())),
            (OPEN, counted(proof.open_lines())),
            (sequent(number), counted_text(proof.sequent(number))),
            (rule(number), [KINDS.index(kind)] + counted(premises)),
            (under(number), counted(proof.under(number))),
            (facts(number), proof.facts(number)),
            (part(number), counted_text(proof.part(number).text())),
            (balance(number), proof.balance(number)))))

    def make_find(self):
        text = ", ".join(self.formula([1, 1, 2]) for _ in range(self.source.choice([1, 2, 2, 20, 21])))
        if self.proof.lines and self.source.random() < 0.8:
            text = self.proof.sequent(self.source.randrange(len(self.proof.lines)))
            text = text.replace(", ", self.source.choice([",", " ,", ",  "]))
            text = spoiled(self.source, text) if self.source.random() < 0.2 else text
        numbers = self.proof.find(text)
        self.ask(find(text), [-1] if numbers is None else counted(numbers))

    def make_keep(self):
        if self.proof.lines:
            number = max(range(len(self.proof.lines)), key=lambda one: (len(self.proof.under(one)), self.source.random()))
            self.proof = self.proof.part(number)
            self.ask(keep(number), self.count())

    def make_rename(self):
        old, new = self.name(), self.name()
        if not (is_name(old) and is_name(new)):
            self.ask(rename(old, new), [-1])
            return
        self.proof.fill(old, ("atom", new, False))
        self.ask(rename(old, new), self.count())

    def make_fill(self):
        name, text = self.name(), self.formula([1, 2, 2, 3, 20, 30])
        tree = read(text)
        if not is_name(name) or tree is None:
            self.ask(fill(name, text), [-1])
            return
        filled = self.proof.fill(name, tree)
        self.ask(fill(name, text), self.count() if filled else [-6])

    def make_spread(self):
        spread = self.proof.spread()
        self.ask(SPREAD, self.count() if spread else [-7])


MAKERS = {"line": 60, "proof": 1, "drop": 3, "question": 25, "find": 4, "keep": 1, "rename": 3, "fill": 4, "spread": 1}


class AgainstTheSecondReading(unittest.TestCase):
    def test_made_sessions(self):
        met = {}
        for seed in range(150):
            session = Session(seed)
            for _ in range(session.source.choice([10, 60, 200])):
                maker = session.source.choices(list(MAKERS), list(MAKERS.values()))[0]
                getattr(session, "make_" + maker)()
            self.check(session, seed)
            for call, answer in zip(session.calls, session.expected):
                met.setdefault(call[0], set()).add(min(answer[0], 1 if call[0] == 0 else 0))
        self.assertEqual(met, {
            0: {0, 1}, 1: {0, -1, -2, -3, -4, -5, -6, -7}, 2: {0, -8}, 3: {0}, 4: {0, -2}, 5: {0, -2}, 6: {0}, 7: {0, -2},
            8: {0, -2}, 9: {0, -1}, 10: {0, -2}, 11: {0, -2}, 12: {0, -1}, 13: {0, -1, -6}, 14: {0, -7}, 15: {0, -2}})

    def check(self, session, seed):
        self.assertTrue(1 <= len(session.calls) <= 400 and sum(len(call) for call in session.calls) <= 16000)
        found = run(*session.calls)
        for place, (call, answer) in enumerate(zip(session.calls, session.expected)):
            self.assertEqual(found[place], answer, (seed, place, bytes(code % 256 for code in codes(call))))


if __name__ == "__main__":
    unittest.main()
