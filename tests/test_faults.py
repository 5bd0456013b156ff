"""The faults of lines, each reason and their order."""

import unittest

from deskcalls import EXAMPLE, TEXT, line, lines, reason, run, sequent, weakened

DEEP = "!" * 39 + "a"


def axioms(count):
    return ["ax a"] * count


class Reasons(unittest.TestCase):
    def test_the_example_of_the_document(self):
        self.assertEqual(reason("par 2 0 0", *EXAMPLE[:3]), 4)
        self.assertEqual(reason("cut 0 0 1 0", *EXAMPLE[:3]), 3)
        self.assertEqual(reason("cut 0 0 1 0", *EXAMPLE), 3)
        self.assertEqual(reason("ax a*", *EXAMPLE), 1)

    def test_other_words(self):
        for text in ("", " ", "axiom a", "AX a", "a", "plus 0 0 a", "plus3 0 0 a", "weaken 0 a", " ax a", "ax\ta", "0", "ax,a",
                     "contract 0 0 1", "\xffax a"):
            self.assertEqual(reason(text, "ax a", "ax a"), 1, text)

    def test_another_number_of_words(self):
        for text in (
            "ax", "ax ", "cut", "cut 0 0 1", "cut 0 0 1 1 ", "cut 0 0 1 1 0", "tensor 0 0 1", "tensor 0 0 1 0 0", "par 0 0",
            "par 0 0 1 1", "with 0 0 1", "with 0 0 1 0 1", "plus1 0 0", "plus1 0 0 ", "plus2 0 b", "plus2 0 0", "der 0",
            "der 0 0 0", "weak 0", "weak a", "weak 0 ", "con 0 0", "con 0 0 1 1", "prom 0", "prom 0 0 0", "ex 0 0",
            "ex 0 0 1 0", "ex 0 0 1 ", "der", "weak 0 0 a", "ex 0 0 1 a",
        ):
            self.assertEqual(reason(text, "ax a", "ax a"), 1, text)

    def test_one_blank_between_words(self):
        for text in ("der  0 0", "der 0  0", "der 0 0 ", "ex 0 0  1", "plus1  0 0 a", "plus1 0  0 a", "weak  0 a", " der 0 0"):
            self.assertEqual(reason(text, "ax a"), 1, text)
        for text in ("ax  a", "ax a ", "plus1 0 0  a ", "weak 0   a"):
            self.assertEqual(reason(text, "ax a"), 0, text)

    def test_numbers_not_so_written(self):
        for number in ("00", "01", "-0", "-1", "+0", "0x0", "a", "", "0.", "1e0", "\xb2", "0\n", "~0", "(0)", "000"):
            self.assertEqual(reason(f"der {number} 0", "ax a"), 1, number)
            self.assertEqual(reason(f"der 0 {number}", "ax a"), 1, number)
            self.assertEqual(reason(f"cut 0 0 {number} 1", "ax a", "ax a"), 1, number)
            self.assertEqual(reason(f"cut 0 0 1 {number}", "ax a", "ax a"), 1, number)

    def test_texts_that_are_no_formulas_or_not_in_bounds(self):
        for text in ("a*", "", "a b", DEEP.replace("a", "!a"), "*".join("a" * 61), "~" * 101 + "a"):
            for start in ("ax ", "plus1 0 0 ", "plus2 0 0 ", "weak 0 "):
                self.assertEqual(reason(start + text, "ax a"), 1, start + text)

    def test_no_earlier_line(self):
        for text in ("cut 2 0 1 1", "cut 0 0 2 1", "tensor 0 0 2 0", "par 2 0 1", "with 7 0 0 0", "plus1 2 0 a", "plus2 2 0 a",
                     "der 2 0", "weak 2 a", "con 2 0 1", "prom 2 0", "ex 2 0 1", "der 1000000000000000000 0"):
            self.assertEqual(reason(text, "ax a", "ax a"), 2, text)
        self.assertEqual(reason("der 0 0"), 2)

    def test_very_long_numbers(self):
        long_number = "1" + "0" * 9000
        self.assertEqual(reason(f"der {long_number} 0", "ax a"), 2)
        self.assertEqual(reason(f"der 0 {long_number}", "ax a"), 4)
        self.assertEqual(reason(f"der 0{long_number} 0", "ax a"), 1)
        self.assertEqual(reason("der 0 1000000000", "ax a"), 4)
        self.assertEqual(reason("par 0 10000000000 20000000000", "ax a"), 4)

    def test_used_premises(self):
        for text in ("der 0 0", "cut 0 0 2 0", "cut 2 0 0 0", "cut 2 0 2 1", "tensor 2 0 2 0", "with 2 0 2 0", "weak 0 a",
                     "ex 0 0 1", "par 0 0 1", "plus1 0 0 a", "plus2 0 0 a", "con 0 0 1", "prom 0 0"):
            self.assertEqual(reason(text, "ax a", "der 0 0", "ax a"), 3, text)
        self.assertEqual(reason("der 1 0", *EXAMPLE), 3)

    def test_no_places(self):
        for text in ("cut 0 2 1 0", "cut 0 0 1 2", "tensor 0 2 1 0", "tensor 0 0 1 2", "par 0 2 0", "par 0 0 2", "with 0 2 1 0",
                     "with 0 0 1 2", "plus1 0 2 a", "plus2 0 2 a", "der 0 2", "con 0 2 0", "con 0 0 2", "prom 0 2", "ex 0 2 0",
                     "ex 0 0 2", "par 0 1 1", "con 0 1 1", "ex 0 0 0"):
            self.assertEqual(reason(text, "ax a", "ax a"), 4, text)

    def test_each_place_lies_in_its_own_premise(self):
        standing = ["ax a", "weak 0 b", "ax a"]
        self.assertEqual(reason("tensor 1 2 2 1", *standing), 0)
        self.assertEqual(reason("tensor 2 2 1 1", *standing), 4)
        self.assertEqual(reason("tensor 1 1 2 2", *standing), 4)
        self.assertEqual(reason("tensor 2 1 1 2", *standing), 0)
        self.assertEqual(reason("tensor 2 1 1 1", *standing), 0)

    def test_twenty_formulas(self):
        self.assertEqual(reason("weak 17 b", *weakened(19)), 0)
        self.assertEqual(reason("weak 18 b", *weakened(20)), 6)
        self.assertEqual(reason("ex 18 0 1", *weakened(20)), 0)
        self.assertEqual(reason("tensor 17 0 18 0", *weakened(19), "ax a"), 0)
        self.assertEqual(reason("tensor 18 0 19 0", *weakened(20), "ax a"), 6)
        self.assertEqual(reason("cut 18 0 19 1", *weakened(20), "ax a"), 0)
        self.assertEqual(reason("cut 18 0 20 1", *weakened(20), "ax a", "weak 19 c"), 6)

    def test_formulas_that_come_are_in_bounds(self):
        self.assertEqual(reason("der 0 0", "ax " + DEEP[1:]), 0)
        for text in ("der 0 0", "prom 0 0", "plus1 0 0 b", "plus2 0 0 b", "weak 0 " + DEEP, "par 0 0 1",
                     "tensor 0 0 1 0", "with 0 0 1 0"):
            self.assertEqual(reason(text, "ax " + DEEP, "ax " + DEEP), 6, text)
        self.assertEqual(reason("plus1 0 0 " + DEEP, "ax a"), 6)
        self.assertEqual(reason("plus2 0 0 " + DEEP[1:], "ax a"), 0)

    def test_atoms_and_nodes_of_formulas_that_come(self):
        thirty = "*".join("a" * 30)
        self.assertEqual(reason("par 0 0 1", "ax " + thirty), 0)
        self.assertEqual(reason("par 0 0 1", "ax a*" + thirty), 6)
        self.assertEqual(reason("plus1 0 0 " + thirty, "ax " + thirty), 0)
        self.assertEqual(reason("plus1 0 0 a*" + thirty, "ax " + thirty), 6)
        nodes_99 = "&".join(["!" * 8 + "a"] * 10)
        self.assertEqual(reason("plus1 0 0 !" + nodes_99, "ax " + nodes_99), 0)
        self.assertEqual(reason("plus1 0 0 !!" + nodes_99, "ax " + nodes_99), 6)

    def test_two_hundred_lines(self):
        self.assertEqual(reason("ax a", *axioms(199)), 0)
        self.assertEqual(reason("ax a", *axioms(200)), 7)
        self.assertEqual(reason("der 0 0", *axioms(200)), 7)


class FirstReason(unittest.TestCase):
    def test_one_comes_before_all(self):
        self.assertEqual(reason("plus1 9 9 a*", *EXAMPLE), 1)
        self.assertEqual(reason("plus1 0 9 a*", *EXAMPLE), 1)
        self.assertEqual(reason("cut 0 0 9 00", *EXAMPLE), 1)
        self.assertEqual(reason("ax !" + DEEP, *axioms(200)), 1)

    def test_two_comes_before_three(self):
        self.assertEqual(reason("cut 0 0 9 0", *EXAMPLE), 2)
        self.assertEqual(reason("cut 9 0 0 0", *EXAMPLE), 2)
        self.assertEqual(reason("cut 9 0 9 0", *EXAMPLE), 2)

    def test_two_comes_before_four_and_seven(self):
        self.assertEqual(reason("cut 3 9 9 9", *EXAMPLE), 2)
        self.assertEqual(reason("der 200 0", *axioms(200)), 2)

    def test_three_comes_before_four_and_seven(self):
        self.assertEqual(reason("par 0 9 9", *EXAMPLE), 3)
        self.assertEqual(reason("cut 3 9 3 9", *EXAMPLE), 3)
        self.assertEqual(reason("cut 0 0 0 1", *axioms(200)), 3)

    def test_four_comes_before_five_and_seven(self):
        self.assertEqual(reason("con 0 1 1", "ax a"), 4)
        self.assertEqual(reason("cut 0 0 1 9", "ax a", "ax b"), 4)
        self.assertEqual(reason("der 0 9", *axioms(200)), 4)

    def test_five_comes_before_six_and_seven(self):
        self.assertEqual(reason("prom 0 0", "ax ?" + DEEP[1:]), 5)
        self.assertEqual(reason("with 0 0 1 0", "ax " + DEEP, "ax b"), 5)
        self.assertEqual(reason("cut 18 0 37 0", *weakened(20), *[f"weak {n} b" if n > 18 else "ax a" for n in range(18, 37)]), 5)
        self.assertEqual(reason("prom 0 0", *axioms(200)), 5)

    def test_six_comes_before_seven(self):
        self.assertEqual(reason("der 0 0", "ax " + DEEP, *axioms(199)), 6)


class NothingChanges(unittest.TestCase):
    def test_a_line_with_a_fault_changes_nothing(self):
        standing = ["ax " + DEEP, "ax b", "ax c", "der 2 0"]
        faulty = ("ax a*", "der 9 0", "der 2 0", "der 1 2", "prom 1 0", "der 0 0", "cut 0 0 1 0", "weak 0 " + DEEP)
        before = run(lines(*standing), TEXT, [6], sequent(3))
        for text in faulty:
            after = run(lines(*standing), line(text), TEXT, [6], sequent(3), line("der 1 0"))
            self.assertLess(after[1][0], 0)
            self.assertEqual(after[2:5], before[1:])
            self.assertEqual(after[5], [5])

    def test_a_line_past_two_hundred_changes_nothing(self):
        found = run(lines(*axioms(200)), TEXT, line("der 0 0"), TEXT, [6], [2], line("der 0 0"))
        self.assertEqual(found[1], found[3])
        self.assertEqual(found[2], [-7])
        self.assertEqual(found[4], [200] + list(range(200)))
        self.assertEqual(found[5:], [[199], [200]])


if __name__ == "__main__":
    unittest.main()
