"""The call spread."""

import unittest

from deskcalls import (
    DROP, EVERY_KIND, EXAMPLE, OPEN, SPREAD, TEXT, all_told, balanced, counted_text, find, line, lines, proof, rule, run, sequent,
    under, written)

SHAPES = {
    "a": ("ax a",),
    "~a": ("ax ~a",),
    "a*b": ("ax a", "ax b", "tensor 0 0 1 0", "par 2 0 1"),
    "a|b": ("ax a", "ax b", "tensor 0 1 1 1", "par 2 0 1", "ex 3 0 1"),
    "a&b": ("ax a", "plus1 0 1 ~b", "ax b", "plus2 2 1 ~a", "with 1 0 3 0", "ex 4 0 1"),
    "a+b": ("ax a", "plus1 0 0 b", "ax b", "plus2 2 0 a", "with 1 0 3 0"),
    "!a": ("ax a", "der 0 1", "prom 1 0", "ex 2 0 1"),
    "?a": ("ax a", "der 0 0", "prom 1 0"),
}
NESTS = {
    "~a|~b": ("ax ~a", "ax ~b", "tensor 0 1 1 1", "par 2 0 1", "ex 3 0 1"),
    "?a*!b": ("ax a", "der 0 0", "prom 1 0", "ax b", "der 3 1", "prom 4 0", "ex 5 0 1", "tensor 2 0 6 0", "par 7 0 1"),
    "(a+~b)&c": ("ax a", "plus1 0 0 ~b", "ax ~b", "plus2 2 0 a", "with 1 0 3 0", "plus1 4 1 ~c", "ax c", "plus2 6 1 ~a&b",
                 "with 5 0 7 0", "ex 8 0 1"),
    "a+(b|c)": ("ax a", "plus1 0 0 b|c", "ax b", "ax c", "tensor 2 1 3 1", "par 4 0 1", "ex 5 0 1", "plus2 6 0 a",
                "with 1 0 7 0"),
    "a*b*c": ("ax a", "ax b", "ax c", "tensor 1 0 2 0", "par 3 0 1", "tensor 0 0 4 0", "par 5 0 1"),
    "(a*b)*c": ("ax a", "ax b", "tensor 0 0 1 0", "par 2 0 1", "ax c", "tensor 3 0 4 0", "par 5 0 1"),
    "!?a": ("ax a", "der 0 0", "prom 1 0", "der 2 1", "prom 3 0", "ex 4 0 1"),
    "?(a*b)": EXAMPLE + ("der 3 0", "prom 4 0"),
}
AMONG = ("ax a*b", "ax c", "weak 0 d", "ax !e", "tensor 2 0 3 1", "der 1 0")
AMONG_SPREAD = EXAMPLE + ("ax c", "weak 3 d", "ax e", "der 6 1", "prom 7 0", "ex 8 0 1", "tensor 5 0 9 1", "der 4 0")


class Shapes(unittest.TestCase):
    def test_each_shape(self):
        for formula, texts in (SHAPES | NESTS).items():
            self.assertEqual(run(lines("ax " + formula), SPREAD, TEXT),
                             [[0, 1], [len(texts)], counted_text(written(texts))], formula)

    def test_the_last_line_has_the_axioms_sequent(self):
        for formula, texts in (SHAPES | NESTS).items():
            found = run(lines("ax " + formula), sequent(0), SPREAD, sequent(len(texts) - 1))
            self.assertEqual(found[1], found[3], formula)

    def test_every_question_behind_it(self):
        for formula, texts in (SHAPES | NESTS).items():
            count = len(texts)
            self.assertEqual(all_told(count, lines("ax " + formula), SPREAD), all_told(count, lines(*texts)), formula)

    def test_forty_deep(self):
        found = run(lines("ax " + "!" * 39 + "a"), SPREAD, sequent(3 * 39), TEXT)
        self.assertEqual(found[1:3], [[1 + 3 * 39], counted_text("!" * 39 + "a, " + "?" * 39 + "~a")])
        again = run([0] + found[3])
        self.assertEqual(again, [[0, 118]])
        chain = "+".join("abcdefghijklmnopqrstuvwxyz")
        self.assertEqual(run(lines("ax " + chain), SPREAD)[1], [26 + 25 * 3])


class Proofs(unittest.TestCase):
    def test_axioms_among_other_lines(self):
        self.assertEqual(run(lines(*AMONG), SPREAD, TEXT), [[0, 6], [12], counted_text(written(AMONG_SPREAD))])
        self.assertEqual(all_told(12, lines(*AMONG), SPREAD), all_told(12, lines(*AMONG_SPREAD)))

    def test_answers_one_by_one(self):
        found = run(lines(*AMONG), SPREAD, sequent(10), sequent(3), OPEN, rule(10), rule(5), rule(9), under(5), find("c, ~c"),
                    line("ax f*g"), line("par 3 0 1"), line("par 10 0 1"))
        self.assertEqual(found[2:], [
            counted_text("~a|~b, ?d, !e, (a*b)*?~e"), counted_text("a*b, ~a|~b"), [2, 10, 11], [2, 2, 5, 9], [8, 1, 3],
            [11, 1, 8], [5, 0, 1, 2, 3, 5], [1, 4], [13], [-3], [14]])

    def test_sequents_of_the_lines_that_stay(self):
        new_numbers = (3, 4, 5, 9, 10, 11)
        before = run(lines(*AMONG), *[sequent(number) for number in range(6)])
        after = run(lines(*AMONG), SPREAD, *[sequent(number) for number in new_numbers])
        self.assertEqual(before[1:], after[2:])

    def test_every_kind(self):
        found = run(lines(*EVERY_KIND), SPREAD, TEXT)
        expected = EVERY_KIND[:15] + ("ax h", "der 15 1", "prom 16 0", "ex 17 0 1", "prom 18 0", "ex 14 0 2")
        self.assertEqual(found[1:], [[21], counted_text(written(expected))])

    def test_twice(self):
        found = run(lines(*AMONG), SPREAD, TEXT, OPEN, SPREAD, TEXT, OPEN)
        self.assertEqual(found[1:4], found[4:])

    def test_a_new_axiom_behind_it(self):
        found = run(lines("ax !a"), SPREAD, line("ax ?b"), SPREAD, TEXT)
        self.assertEqual(found[1:], [[4], [5], [7], counted_text(written(SHAPES["!a"] + ("ax b", "der 4 0", "prom 5 0")))])

    def test_atoms_alone_stay(self):
        texts = ("ax a", "ax ~b", "tensor 0 0 1 1", "weak 2 a*b")
        self.assertEqual(run(lines(*texts), SPREAD, TEXT), [[0, 4], [4], counted_text(written(texts))])

    def test_without_lines(self):
        self.assertEqual(run(SPREAD, TEXT, DROP), [[0], [0], [-8]])

    def test_what_comes_is_a_proof(self):
        for texts in (AMONG, EVERY_KIND, EXAMPLE):
            found = run(lines(*texts), SPREAD, TEXT)
            self.assertEqual(run([0] + found[2], TEXT), [[0, found[1][0]], found[2]])


class Room(unittest.TestCase):
    def test_two_hundred_lines(self):
        found = run(lines(*["ax !a"] * 50), SPREAD, TEXT, SPREAD, line("ax b"), DROP, line("ax b"))
        self.assertEqual(found[1], [200])
        self.assertEqual(found[2], counted_text("".join(
            f"ax a\nder {number} 1\nprom {number + 1} 0\nex {number + 2} 0 1\n" for number in range(0, 200, 4))))
        self.assertEqual(found[3:], [[200], [-7], [199], [200]])

    def test_each_shape_counts(self):
        for formula, texts in (SHAPES | NESTS).items():
            if len(texts) > 1:
                atoms = ["ax z"] * (200 - len(texts))
                self.assertEqual(run(lines("ax " + formula, *atoms), SPREAD)[1], [200], formula)
                self.assertEqual(run(lines(*atoms, "ax z", "ax " + formula), SPREAD)[1], [-7], formula)

    def test_other_lines_count(self):
        chain = [f"ex {number} 0 1" for number in range(196)]
        self.assertEqual(run(lines("ax a*b", *chain), SPREAD)[1], [200])
        self.assertEqual(run(lines("ax a*b", *chain, "ex 196 0 1"), SPREAD)[1], [-7])

    def test_one_axiom_alone_may_be_too_many(self):
        # 60 atoms bring a line each, 59 tensors two, a why not two, an of course three.
        self.assertEqual(run(lines("ax " + "?" * 11 + balanced(60)), SPREAD)[1], [200])
        self.assertEqual(run(lines("ax !" + "?" * 10 + balanced(60)), SPREAD)[1], [-7])
        self.assertEqual(run(lines("ax " + "&".join("a" * 40)), SPREAD)[1], [40 + 39 * 4])
        self.assertEqual(run(lines("ax " + "&".join(["!a"] * 30)), SPREAD)[1], [-7])

    def test_nothing_changes(self):
        for texts in (["ax !a"] * 50 + ["ax b"], ["ax b"] + ["ax !a"] * 50, ["ax a|b"] * 20 + ["der 0 0"] + ["ax a|b"] * 20):
            found = run(lines(*texts), TEXT, OPEN, SPREAD, TEXT, OPEN, sequent(3), line("par 1 0 1"))
            self.assertEqual(found[3], [-7])
            self.assertEqual(found[1:3], found[4:6])
            self.assertEqual(found[6], run(lines(*texts), sequent(3))[1])
            self.assertEqual(found[7], [len(texts) + 1])

    def test_room_again(self):
        found = run(lines(*["ax !a"] * 50, "ax b"), SPREAD, DROP, SPREAD, proof("ax a*b\n"), SPREAD, TEXT)
        self.assertEqual(found[1:], [[-7], [50], [200], [0, 1], [4], counted_text(written(EXAMPLE))])


if __name__ == "__main__":
    unittest.main()
