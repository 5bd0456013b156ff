"""The calls part and keep."""

import unittest

from deskcalls import (
    DROP, EVERY_KIND, EXAMPLE, FAR, OPEN, SPREAD, TEXT, all_told, balance, counted_text, facts, fill, find, keep, line, lines,
    part, proof, rename, rule, run, sequent, under, written)

SCATTERED = ("ax a", "ax b", "ax c", "der 0 0", "tensor 2 0 3 1", "ax d", "der 1 0", "par 4 0 1", "weak 6 e")
# Which lines are under each line of the proof above, told with their new numbers.
PARTS = (
    ("ax a",),
    ("ax b",),
    ("ax c",),
    ("ax a", "der 0 0"),
    ("ax a", "ax c", "der 0 0", "tensor 1 0 2 1"),
    ("ax d",),
    ("ax b", "der 0 0"),
    ("ax a", "ax c", "der 0 0", "tensor 1 0 2 1", "par 3 0 1"),
    ("ax b", "der 0 0", "weak 1 e"),
)


class PartCall(unittest.TestCase):
    def test_lines_in_between_fall_away(self):
        found = run(lines(*SCATTERED), *[part(number) for number in range(len(SCATTERED))])
        self.assertEqual(found[1:], [counted_text(written(texts)) for texts in PARTS])

    def test_the_whole_proof(self):
        self.assertEqual(run(lines(*EXAMPLE), part(3))[1], counted_text(written(EXAMPLE)))

    def test_the_order_of_the_premises_stays(self):
        texts = ("ax z", "ax a", "ax y", "ax b", "tensor 3 0 1 1")
        self.assertEqual(run(lines(*texts), part(4))[1], counted_text("ax a\nax b\ntensor 1 0 0 1\n"))

    def test_every_kind(self):
        found = run(lines(*EVERY_KIND), part(17), part(16), part(5))
        self.assertEqual(found[1:], [counted_text(written(texts)) for texts in (
            ("ax c", "ax c", "with 0 1 1 1", "plus1 2 0 d&e", "plus2 3 1 d|e", "der 4 0", "weak 5 f*g", "weak 6 f*g",
             "con 7 2 3", "ex 8 0 2"),
            ("ax !h", "prom 0 0"),
            EVERY_KIND[:6])])

    def test_nothing_changes(self):
        count = len(SCATTERED)
        self.assertEqual(all_told(count, lines(*SCATTERED), part(7), part(count)), all_told(count, lines(*SCATTERED)))

    def test_a_part_is_a_proof(self):
        for number, texts in enumerate(PARTS):
            text = bytes(run(lines(*SCATTERED), part(number))[1][1:])
            found = run(lines(*SCATTERED), sequent(number), proof(text), sequent(len(texts) - 1))
            self.assertEqual(found[2], [0, len(texts)])
            self.assertEqual(found[1], found[3])


class KeepCall(unittest.TestCase):
    def test_how_many_lines(self):
        for number, texts in enumerate(PARTS):
            self.assertEqual(run(lines(*SCATTERED), keep(number), TEXT)[1:], [[len(texts)], counted_text(written(texts))])

    def test_all_other_questions_behind_it(self):
        for number, texts in enumerate(PARTS):
            count = len(texts)
            self.assertEqual(all_told(count, lines(*SCATTERED), keep(number)), all_told(count, lines(*texts)))

    def test_answers_one_by_one(self):
        found = run(lines(*SCATTERED), keep(7), OPEN, sequent(4), rule(3), rule(4), under(3), facts(4), find("~a, ?a"), part(2),
                    balance(2), sequent(5))
        self.assertEqual(found[1:], [
            [5], [1, 4], counted_text("c*?a, ~c|~a"), [2, 2, 1, 2], [3, 1, 3], [4, 0, 1, 2, 3],
            [4, 2, 0, 1, 1, 0, 0, 0, 1, 0, 0, 0, 0], [1, 2], counted_text("ax a\nder 0 0\n"), [1, 1, 97, 1, 1], [-2]])

    def test_changes_behind_it(self):
        for call, answer, text in (
            (line("der 3 0"), [-3], None), (line("der 5 0"), [-2], None), (line("weak 4 b"), [6], None), (DROP, [4], None),
            (SPREAD, [5], "ax a\nax c\nder 0 0\ntensor 1 0 2 1\npar 3 0 1\n"),
            (rename("a", "b"), [5], "ax b\nax c\nder 0 0\ntensor 1 0 2 1\npar 3 0 1\n"),
            (fill("c", "a&b"), [5], "ax a\nax a&b\nder 0 0\ntensor 1 0 2 1\npar 3 0 1\n"),
            (keep(2), [2], "ax a\nder 0 0\n"), (keep(4), [5], None), (keep(5), [-2], None),
        ):
            found = run(lines(*SCATTERED), keep(7), call, TEXT)
            self.assertEqual(found[2], answer, call)
            if text is not None:
                self.assertEqual(found[3], counted_text(text))

    def test_what_has_gone_makes_room(self):
        texts = ["ax a"] * 199 + ["der 0 0"]
        self.assertEqual(run(lines(*texts), line("ax b"), keep(199), line("ax b"), TEXT),
                         [[0, 200], [-7], [2], [3], counted_text("ax a\nder 0 0\nax b\n")])

    def test_two_hundred_lines_are_kept(self):
        texts = ["ax a"] + [f"ex {number} 0 1" for number in range(199)]
        self.assertEqual(run(lines(*texts), keep(199), TEXT)[1:], [[200], counted_text(written(texts))])

    def test_keep_one_line(self):
        self.assertEqual(run(lines(*EXAMPLE), keep(1), keep(1), keep(0), DROP, keep(0)),
                         [[0, 4], [1], [-2], [1], [0], [-2]])


class NoSuchLine(unittest.TestCase):
    def test_numbers_of_no_line(self):
        count = len(SCATTERED)
        expected = all_told(count, lines(*SCATTERED))
        for call in (part, keep):
            self.assertEqual(run(call(0)), [[-2]])
            for number in (count, count + 1, -1, -count, FAR, -FAR):
                self.assertEqual(run(lines(*SCATTERED), call(number))[1], [-2])
                self.assertEqual(all_told(count, lines(*SCATTERED), call(number)), expected)


if __name__ == "__main__":
    unittest.main()
