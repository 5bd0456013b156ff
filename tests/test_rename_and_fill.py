"""The calls rename and fill."""

import unittest

from deskcalls import (
    EVERY_KIND, EXAMPLE, TEXT, all_told, balanced, counted_text, fill, find, line, lines, rename, run, sequent, written)

# The name a stands plain and turned, in formulas that rules name and in sequents.
NAMED = ("ax a*~b", "weak 0 ~a", "ax a|b", "plus1 2 0 a&c", "plus2 3 1 ~a", "tensor 1 0 4 0", "ax a1*ab")
NO_NAMES = ("", "abcdefghijklm", "1a", "0", "A", "aB", "a b", " a", "a ", "~a", "a*b", "a_", "\xff", "a\n", "(a)", "-o", "a#", "!a",
            "a" * 15000)


def behind(call, texts):
    """The text and the sequents behind a call on a proof of these lines, which are to stay as many."""
    count = len(texts)
    found = run(lines(*texts), call, TEXT, *[sequent(number) for number in range(count)])
    assert found[:2] == [[0, count], [count]], found[:2]
    return [bytes(answer[1:]).decode() for answer in found[2:]]


class RenameCall(unittest.TestCase):
    def test_rules_and_sequents(self):
        self.assertEqual(behind(rename("a", "z9"), NAMED), [
            written(("ax z9*~b", "weak 0 ~z9", "ax z9|b", "plus1 2 0 z9&c", "plus2 3 1 ~z9", "tensor 1 0 4 0", "ax a1*ab")),
            "z9*~b, ~z9|b",
            "z9*~b, ~z9|b, ?~z9",
            "z9|b, ~z9*~b",
            "~z9*~b, (z9|b)+(z9&c)",
            "~z9*~b, ~z9+(z9|b)+(z9&c)",
            "~z9|b, ?~z9, ~z9+(z9|b)+(z9&c), (z9*~b)*~z9*~b",
            "a1*ab, ~a1|~ab"])

    def test_a_name_that_stands_there_already(self):
        self.assertEqual(behind(rename("a", "b"), ("ax a*~b", "weak 0 b", "ax a")), [
            written(("ax b*~b", "weak 0 b", "ax b")), "b*~b, ~b|b", "b*~b, ~b|b, ?b", "b, ~b"])
        found = run(lines("ax a", "ax b"), line("cut 0 0 1 1"), rename("a", "b"), line("cut 0 0 1 1"), sequent(2))
        self.assertEqual(found[1:], [[-5], [2], [3], counted_text("~b, b")])

    def test_names_that_have_become_one_stay_one(self):
        self.assertEqual(run(lines("ax a*b"), rename("a", "b"), rename("b", "a"), TEXT)[3], counted_text("ax a*a\n"))

    def test_to_itself(self):
        count = len(NAMED)
        self.assertEqual(all_told(count, lines(*NAMED), rename("a", "a")), all_told(count, lines(*NAMED)))

    def test_a_name_that_stands_nowhere(self):
        count = len(NAMED)
        for name in ("d", "ab1", "a12", "ax", "weak", "plus1"):
            self.assertEqual(all_told(count, lines(*NAMED), rename(name, "e")), all_told(count, lines(*NAMED)))

    def test_longest_names(self):
        self.assertEqual(behind(rename("a", "abcdefghij12"), ("ax ~a",)), ["ax ~abcdefghij12\n", "~abcdefghij12, abcdefghij12"])
        self.assertEqual(behind(rename("abcdefghij12", "a"), ("ax ~abcdefghij12",)), ["ax ~a\n", "~a, a"])

    def test_every_question_behind_it(self):
        for texts in (EXAMPLE, EVERY_KIND, NAMED):
            renamed = run(lines(*texts), rename("a", "c"), TEXT)[2]
            again = [0] + renamed
            self.assertEqual(all_told(len(texts), lines(*texts), rename("a", "c")), all_told(len(texts), again))

    def test_without_lines(self):
        self.assertEqual(run(rename("a", "b"), TEXT), [[0], [0]])

    def test_formulas_of_the_largest_sizes(self):
        largest = "?" * 21 + balanced(60, "!a")
        self.assertEqual(run(lines("ax " + largest), rename("a", "abcdefghij12"))[1], [1])

    def test_texts_that_are_no_names(self):
        count = len(NAMED)
        expected = all_told(count, lines(*NAMED))
        for text in NO_NAMES:
            for call in (rename(text, "b"), rename("a", text)):
                self.assertEqual(run(call), [[-1]], text)
                self.assertEqual(run(lines(*NAMED), call)[1], [-1], text)
            self.assertEqual(all_told(count, lines(*NAMED), rename("a", text[:99])), expected)
        self.assertEqual(run(rename("", "")), [[-1]])


class FillCall(unittest.TestCase):
    def test_rules_and_sequents(self):
        self.assertEqual(behind(fill("a", "c&!d"), NAMED), [
            written(("ax (c&!d)*~b", "weak 0 ~c+?~d", "ax (c&!d)|b", "plus1 2 0 (c&!d)&c", "plus2 3 1 ~c+?~d", "tensor 1 0 4 0",
                     "ax a1*ab")),
            "(c&!d)*~b, (~c+?~d)|b",
            "(c&!d)*~b, (~c+?~d)|b, ?(~c+?~d)",
            "(c&!d)|b, (~c+?~d)*~b",
            "(~c+?~d)*~b, ((c&!d)|b)+((c&!d)&c)",
            "(~c+?~d)*~b, (~c+?~d)+((c&!d)|b)+((c&!d)&c)",
            "(~c+?~d)|b, ?(~c+?~d), (~c+?~d)+((c&!d)|b)+((c&!d)&c), ((c&!d)*~b)*(~c+?~d)*~b",
            "a1*ab, ~a1|~ab"])

    def test_brackets_as_the_form_asks(self):
        self.assertEqual(behind(fill("b", "c*d"), ("ax a*b", "ax b*a", "ax ~b|a", "ax !b", "ax b")), [
            written(("ax a*c*d", "ax (c*d)*a", "ax (~c|~d)|a", "ax !(c*d)", "ax c*d")),
            "a*c*d, ~a|~c|~d", "(c*d)*a, (~c|~d)|~a", "(~c|~d)|a, (c*d)*~a", "!(c*d), ?(~c|~d)", "c*d, ~c|~d"])

    def test_a_formula_that_holds_the_name(self):
        self.assertEqual(behind(fill("a", "a*~a"), ("ax a", "der 0 1")), ["ax a*~a\nder 0 1\n", "a*~a, ~a|a", "a*~a, ?(~a|a)"])
        found = run(lines("ax a"), fill("a", "!a"), fill("a", "!a"), fill("a", "a&b"), TEXT)
        self.assertEqual(found[4], counted_text("ax !!(a&b)\n"))

    def test_a_formula_written_otherwise(self):
        for text in ("~b|c", "b-oc", " b -o c ", "(~b)|(c)", "~(b*~c)", "~~(b -o c)"):
            self.assertEqual(behind(fill("a", text), ("ax ~a",)), ["ax b*~c\n", "b*~c, ~b|c"], text)

    def test_an_atom_plain_or_turned(self):
        self.assertEqual(behind(fill("a", "b"), ("ax a*~a",)), ["ax b*~b\n", "b*~b, ~b|b"])
        self.assertEqual(behind(fill("a", "~a"), ("ax a*~a*b",)), ["ax ~a*a*b\n", "~a*a*b, a|~a|~b"])

    def test_a_name_that_stands_nowhere(self):
        count = len(NAMED)
        self.assertEqual(all_told(count, lines(*NAMED), fill("d", balanced(60))), all_told(count, lines(*NAMED)))

    def test_every_question_behind_it(self):
        for texts in (EXAMPLE, EVERY_KIND, NAMED):
            filled = run(lines(*texts), fill("a", "b&?(c+~a)"), TEXT)[2]
            again = [0] + filled
            self.assertEqual(all_told(len(texts), lines(*texts), fill("a", "b&?(c+~a)")), all_told(len(texts), again))

    def test_found_behind_it(self):
        self.assertEqual(run(lines("ax a", "ax b"), fill("a", "c*d"), find("a, ~a"), find("c*d, ~c|~d"), line("weak 0 a"))[1:],
                         [[2], [0], [1, 0], [3]])

    def test_without_lines(self):
        self.assertEqual(run(fill("a", "b*c"), fill("a", balanced(60)), TEXT), [[0], [0], [0]])


class FillRefusals(unittest.TestCase):
    def refused(self, reason, call, *texts):
        count = len(texts)
        self.assertEqual(run(lines(*texts), call)[1], [reason], call)
        self.assertEqual(all_told(count, lines(*texts), call), all_told(count, lines(*texts)))

    def taken(self, call, *texts):
        self.assertEqual(run(lines(*texts), call)[1], [len(texts)], call)

    def test_texts_that_are_no_names(self):
        for text in NO_NAMES:
            self.assertEqual(run(lines(*EXAMPLE), fill(text, "b"))[1], [-1], text)
            self.refused(-1, fill(text[:99], "b"), *EXAMPLE)

    def test_texts_that_are_no_formulas_in_bounds(self):
        for text in ("", " ", "a*", "a b", "a, b", "A", "a*b|c", "()", "!" * 40 + "a", balanced(61), "~" * 101 + "a", "a" + " " * 2000,
                     "?" * 22 + balanced(60, "!a")):
            self.refused(-1, fill("a", text), *EXAMPLE)
            self.refused(-1, fill("z", text), *EXAMPLE)
            self.assertEqual(run(fill("a", text)), [[-1]])

    def test_one_comes_before_six(self):
        self.refused(-6, fill("a", balanced(60)), *EXAMPLE)
        self.refused(-1, fill("a", balanced(61)), *EXAMPLE)
        self.refused(-1, fill("1", balanced(60)), *EXAMPLE)
        self.refused(-1, fill("a", balanced(60) + "*"), *EXAMPLE)

    def test_sixty_atoms(self):
        self.taken(fill("a", balanced(59)), "ax a*b")
        self.refused(-6, fill("a", balanced(60)), "ax a*b")
        self.taken(fill("a", balanced(60)), "ax a")
        self.taken(fill("a", balanced(30)), "ax a|~a")
        self.refused(-6, fill("a", balanced(31)), "ax a|~a")
        self.taken(fill("a", "b*c"), "ax " + balanced(30))
        self.refused(-6, fill("a", "b*c*d"), "ax " + balanced(30))

    def test_two_hundred_nodes(self):
        # 60 marked atoms and 59 signs between them make 179 nodes.
        marked = balanced(60, "!b")
        self.taken(fill("a", marked), "ax " + "?" * 21 + "a")
        self.refused(-6, fill("a", marked), "ax " + "?" * 22 + "a")
        self.taken(fill("a", "!b"), "ax " + "?" * 21 + balanced(60))
        self.refused(-6, fill("a", "!b"), "ax " + "?" * 22 + balanced(60))

    def test_depth_forty(self):
        self.taken(fill("a", "!" * 19 + "b"), "ax " + "?" * 20 + "a")
        self.refused(-6, fill("a", "!" * 20 + "b"), "ax " + "?" * 20 + "a")
        self.taken(fill("a", "!" * 38 + "b"), "ax c*a")
        self.refused(-6, fill("a", "!" * 39 + "b"), "ax c*a")
        self.refused(-6, fill("a", "!" * 39 + "b"), "ax a*c")
        self.taken(fill("c", "!" * 18 + "b"), "ax " + "!" * 20 + "(c*d)")
        self.refused(-6, fill("c", "!" * 19 + "b"), "ax " + "!" * 20 + "(c*d)")

    def test_turned_atoms_grow_alike(self):
        self.taken(fill("a", "!" * 38 + "b"), "ax c*~a")
        self.refused(-6, fill("a", "!" * 39 + "b"), "ax c*~a")

    def test_formulas_that_rules_name(self):
        for text in ("weak 0 a", "plus1 0 0 a", "plus2 0 0 a", "plus1 0 1 ~a", "plus2 0 1 ~a", "weak 0 ~a"):
            self.taken(fill("a", "!" * 38 + "b"), "ax c", text)
            self.refused(-6, fill("a", "!" * 39 + "b"), "ax c", text)
        for text in ("plus1 0 0 a", "plus2 0 0 a"):
            self.taken(fill("a", balanced(59)), "ax c", text)
            self.refused(-6, fill("a", balanced(60)), "ax c", text)
        for text in ("weak 0 a*b", "plus1 0 0 a*b", "plus2 0 0 a*b"):
            self.taken(fill("a", "!" * 37 + "b"), "ax c", text)
            self.refused(-6, fill("a", "!" * 38 + "b"), "ax c", text)
            self.refused(-6, fill("a", balanced(60)), "ax c", text)
        self.taken(fill("a", "?" * 20 + balanced(60, "!b")), "ax c", "weak 0 a")
        self.refused(-6, fill("a", "?" * 21 + balanced(60, "!b")), "ax c", "weak 0 a")

    def test_sequents_that_rules_make(self):
        self.taken(fill("a", balanced(30)), "ax a", "par 0 0 1")
        self.refused(-6, fill("a", balanced(31)), "ax a", "par 0 0 1")
        self.refused(-6, fill("a", "!" * 39 + "b"), "ax a", "der 0 0")
        self.refused(-6, fill("a", balanced(59)), "ax a", "ax b*c", "tensor 0 0 1 0")

    def test_a_line_that_has_been_cut_away_counts(self):
        texts = ("ax a*c", "ax a*c", "cut 0 0 1 1", "ax b")
        self.refused(-6, fill("a", balanced(60)), *texts)
        self.taken(fill("b", balanced(60)), *texts)

    def test_the_last_line_alone(self):
        self.refused(-6, fill("a", balanced(60)), "ax a", "ax b", "weak 1 d", "ax a*b")


if __name__ == "__main__":
    unittest.main()
