"""The call balance."""

import unittest

from deskcalls import (
    DROP, EXAMPLE, FAR, SPREAD, TEXT, balance, balanced, fill, keep, line, lines, rename, row, run, weakened)


def told(*names):
    """The answer that tells of these names, each with two counts."""
    found = [len(names)]
    for name, plain, turned in names:
        found += row(name) + [plain, turned]
    return found


def last_balance(*texts):
    return run(lines(*texts), balance(len(texts) - 1))[1]


class Counts(unittest.TestCase):
    def test_number_by_number(self):
        self.assertEqual(run(lines("ax ab", "weak 0 b*b*~c1"), balance(0), balance(1))[1:], [
            [1, 2, 97, 98, 1, 1],
            [3, 2, 97, 98, 1, 1, 1, 98, 2, 0, 2, 99, 49, 0, 1]])

    def test_the_example_of_the_document(self):
        self.assertEqual(run(lines(*EXAMPLE), *[balance(number) for number in range(4)])[1:], [
            told(("a", 1, 1)), told(("b", 1, 1)), told(("a", 1, 1), ("b", 1, 1)), told(("a", 1, 1), ("b", 1, 1))])

    def test_plain_only_and_turned_only(self):
        self.assertEqual(last_balance("ax m", "weak 0 a"), told(("a", 1, 0), ("m", 1, 1)))
        self.assertEqual(last_balance("ax m", "weak 0 ~z"), told(("m", 1, 1), ("z", 0, 1)))
        self.assertEqual(last_balance("ax m", "plus1 0 0 ~a*~a*b", "plus2 1 1 !b&?~a&c"),
                         told(("a", 0, 3), ("b", 2, 0), ("c", 1, 0), ("m", 1, 1)))

    def test_over_all_formulas_of_the_sequent(self):
        self.assertEqual(last_balance(*weakened(20)), told(("a", 1, 1), ("b", 18, 0)))
        self.assertEqual(last_balance("ax a*a*~a"), told(("a", 3, 3)))
        self.assertEqual(last_balance("ax " + balanced(60), "weak 0 " + balanced(60), "weak 1 ~(" + balanced(60) + ")"),
                         told(("a", 120, 120)))

    def test_only_the_lines_own_sequent(self):
        self.assertEqual(run(lines("ax a", "ax a*b", "der 0 0", "ax c"), balance(2))[1], told(("a", 1, 1)))
        self.assertEqual(last_balance("ax a", "weak 0 b", "weak 1 b", "con 2 2 3"), told(("a", 1, 1), ("b", 1, 0)))
        self.assertEqual(last_balance("ax a", "weak 0 b", "ax a", "weak 2 ~c", "cut 1 0 3 1"),
                         told(("a", 1, 1), ("b", 1, 0), ("c", 0, 1)))


class Order(unittest.TestCase):
    def test_the_order_of_texts(self):
        names = ["a", "a0", "a00", "a1", "a10", "a2", "a9", "aa", "ab", "ab0", "aba", "abcdefghij12", "abcdefghijkl", "b", "b0", "z",
                 "z9", "zz"]
        for order in (names, names[::-1], names[1::2] + names[::2]):
            self.assertEqual(last_balance("ax " + "*".join(order)), told(*[(name, 1, 1) for name in names]))

    def test_turned_names_stand_among_the_plain_ones(self):
        self.assertEqual(last_balance("ax m", "weak 0 ~b*a*~a1*ab"),
                         told(("a", 1, 0), ("a1", 0, 1), ("ab", 1, 0), ("b", 0, 1), ("m", 1, 1)))


class BehindChanges(unittest.TestCase):
    def test_behind_changes(self):
        found = run(lines("ax a*b", "weak 0 ~b"), rename("a", "b"), balance(1), fill("b", "c*~d"), balance(1), SPREAD, balance(6),
                    balance(20), keep(0), balance(0))
        self.assertEqual(found[2], told(("b", 2, 3)))
        self.assertEqual(found[4], told(("c", 2, 3), ("d", 3, 2)))
        self.assertEqual(found[5:], [[11], told(("c", 1, 1), ("d", 1, 1)), [-2], [1], told(("c", 1, 1))])

    def test_numbers_of_no_line(self):
        self.assertEqual(run(balance(0)), [[-2]])
        for number in (4, 5, 200, -1, -4, FAR, -FAR):
            found = run(lines(*EXAMPLE), TEXT, balance(number), TEXT, DROP, balance(3), line("weak 2 c"), balance(3))
            self.assertEqual((found[2], found[5]), ([-2], [-2]), number)
            self.assertEqual(found[1], found[3])
            self.assertEqual(found[7], told(("a", 1, 1), ("b", 1, 1), ("c", 1, 0)))


if __name__ == "__main__":
    unittest.main()
