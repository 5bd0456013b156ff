"""The calls facts and find."""

import unittest

from deskcalls import (
    DROP, EVERY_KIND, EXAMPLE, FAR, OPEN, TEXT, balanced, facts, find, line, lines, run, weakened)


class FactsCall(unittest.TestCase):
    def test_the_example_of_the_document(self):
        self.assertEqual(run(lines(*EXAMPLE), facts(3))[1], [3, 2, 0, 1, 1, 0, 0, 0, 0, 0, 0, 0, 0])

    def test_an_axiom(self):
        self.assertEqual(run(lines(*EXAMPLE), facts(0), facts(1))[1:], [[1, 1] + [0] * 11] * 2)

    def test_heights_of_every_kind(self):
        found = run(lines(*EVERY_KIND), *[facts(number) for number in range(len(EVERY_KIND))])
        self.assertEqual([answer[0] for answer in found[1:]], [1, 1, 2, 1, 3, 4, 1, 1, 2, 3, 4, 5, 6, 7, 8, 1, 2, 9])

    def test_counts_of_every_kind(self):
        self.assertEqual(run(lines(*EVERY_KIND), facts(5), facts(17), facts(16))[1:], [
            [4, 3, 1, 1, 1, 0, 0, 0, 0, 0, 0, 0, 0],
            [9, 2, 0, 0, 0, 1, 1, 1, 1, 2, 1, 0, 1],
            [2, 1, 0, 0, 0, 0, 0, 0, 0, 0, 0, 1, 0]])

    def test_premises_of_different_heights(self):
        high_first = ("ax a", "der 0 0", "weak 1 c", "ax b", "tensor 2 0 3 0")
        high_second = ("ax b", "ax a", "der 1 0", "weak 2 c", "tensor 0 0 3 0")
        expected = [4, 2, 0, 1, 0, 0, 0, 0, 1, 1, 0, 0, 0]
        self.assertEqual(run(lines(*high_first), facts(4))[1], expected)
        self.assertEqual(run(lines(*high_second), facts(4))[1], expected)

    def test_lines_that_are_not_under_do_not_count(self):
        texts = ("ax a", "ax b", "der 0 0", "weak 1 c", "der 2 0", "weak 4 d")
        self.assertEqual(run(lines(*texts), facts(3), facts(4))[1:], [
            [2, 1, 0, 0, 0, 0, 0, 0, 0, 1, 0, 0, 0], [3, 1, 0, 0, 0, 0, 0, 0, 2, 0, 0, 0, 0]])

    def test_two_hundred_high(self):
        texts = ["ax a"] + [f"ex {number} 0 1" for number in range(199)]
        self.assertEqual(run(lines(*texts), facts(199))[1], [200, 1] + [0] * 10 + [199])

    def test_numbers_of_no_line(self):
        self.assertEqual(run(facts(0)), [[-2]])
        for number in (4, 5, 200, -1, -4, -5, FAR, -FAR):
            found = run(lines(*EXAMPLE), TEXT, facts(number), TEXT, DROP, facts(3))
            self.assertEqual((found[2], found[5]), ([-2], [-2]), number)
            self.assertEqual(found[1], found[3])


class FindCall(unittest.TestCase):
    def found(self, text, *standing):
        return run(lines(*standing), find(text))[1]

    def test_all_lines_rising(self):
        standing = ("ax a", "ax b", "ax a", "ax ~a", "ex 3 0 1", "ax a1")
        self.assertEqual(self.found("a, ~a", *standing), [3, 0, 2, 4])
        self.assertEqual(self.found("~a, a", *standing), [1, 3])
        self.assertEqual(self.found("a1, ~a1", *standing), [1, 5])
        self.assertEqual(self.found("c, ~c", *standing), [0])

    def test_used_lines_are_found_too(self):
        self.assertEqual(self.found("b, ~b", *EXAMPLE), [1, 1])
        self.assertEqual(self.found("~a, ~b, a*b", *EXAMPLE), [1, 2])
        self.assertEqual(self.found("a*b, ~a|~b", *EXAMPLE), [1, 3])

    def test_blanks_around_commas(self):
        for text in ("~a,~b,a*b", " ~a , ~b , a*b ", "~a,   ~b  ,a * b", "~ a,~  b, a*b    "):
            self.assertEqual(self.found(text, *EXAMPLE), [1, 2], text)

    def test_formulas_written_otherwise(self):
        for text in ("(a*b), ~(a*b)", "((a)*(b)), (~a)|~b", "a*b, a-o~b", "~(a -o ~b), a -o ~b", "~~(a*b), ~~~(a*b)"):
            self.assertEqual(self.found(text, *EXAMPLE), [1, 3], text)
        self.assertEqual(self.found("a*(b*c), ~a|(~b|~c)", "ax (a*b)*c", "ax a*b*c"), [1, 1])
        self.assertEqual(self.found("(a*b)*c, (~a|~b)|~c", "ax (a*b)*c", "ax a*b*c"), [1, 0])

    def test_another_order_is_not_found(self):
        for text in ("~b, ~a, a*b", "a*b, ~a, ~b", "~a, a*b, ~b"):
            self.assertEqual(self.found(text, *EXAMPLE), [0], text)

    def test_just_this_list(self):
        for text in ("~a, ~b", "~a", "~a, ~b, a*b, c", "~a, ~b, b*a", "~a, ~b, a|b", "a, ~b, a*b"):
            self.assertEqual(self.found(text, *EXAMPLE), [0], text)

    def test_the_empty_sequent(self):
        for text in ("", " ", "     ", " " * 2001, " " * 15000):
            self.assertEqual(run(find(text)), [[0]])
            self.assertEqual(self.found(text, *EXAMPLE), [0])

    def test_twenty_parts_and_more(self):
        twenty = "a, ~a" + ", ?b" * 18
        self.assertEqual(self.found(twenty, *weakened(20)), [1, 18])
        self.assertEqual(self.found("a, ~a" + ", ?b" * 17, *weakened(20)), [1, 17])
        self.assertEqual(self.found(twenty + ", ?b", *weakened(20)), [-1])
        self.assertEqual(run(find(",".join("a" * 20)), find(",".join("a" * 21)), find("," * 15000)), [[0], [-1], [-1]])

    def test_parts_that_are_no_formulas(self):
        for text in ("a*", "a, b*", "a*b|c, a", "a b", "a, A", "a; b", "a, 1", "a, -", "~", "a, ()", "(a, ~a)", "\xff", "a\n", "#",
                     "a, b\t", "\n", "a.b", "abcdefghijklm, a"):
            self.assertEqual(self.found(text, *EXAMPLE), [-1], text)

    def test_empty_parts(self):
        for text in (",", " , ", ",,", "a,", ",a", "a, ", " ,a", "a,,b", "a, ,b", "a, ~a,"):
            self.assertEqual(self.found(text, *EXAMPLE), [-1], text)

    def test_parts_out_of_bounds(self):
        for within, beyond in (
            ("!" * 39 + "a", "!" * 40 + "a"), (balanced(60), balanced(61)),
            ("?" * 21 + balanced(60, "!a"), "?" * 22 + balanced(60, "!a")), ("~" * 100 + "a", "~" * 101 + "a"),
            ("a" + " " * 1999, "a" + " " * 2000),
        ):
            self.assertEqual(run(find(within), find("a, " + within.strip()), find(within + ",b")), [[0]] * 3, within)
            self.assertEqual(run(find(beyond), find("a," + beyond), find(beyond + ",b")), [[-1]] * 3, beyond)
        self.assertEqual(self.found("!" * 39 + "a, " + "?" * 39 + "~a", "ax " + "!" * 39 + "a"), [1, 0])

    def test_long_texts_of_short_parts(self):
        parts = ["!" * 39 + "a" + " " * 700] * 20
        self.assertEqual(run(find(",".join(parts))), [[0]])

    def test_nothing_changes(self):
        found = run(lines(*EXAMPLE), TEXT, find("a, ~a"), find("a,"), TEXT, OPEN, line("der 3 0"))
        self.assertEqual(found[2:4], [[1, 0], [-1]])
        self.assertEqual(found[1], found[4])
        self.assertEqual(found[5:], [[1, 3], [5]])


if __name__ == "__main__":
    unittest.main()
