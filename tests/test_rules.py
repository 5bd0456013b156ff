"""The twelve rules and the sequents that they make."""

import unittest

from deskcalls import last_sequent, reason, sequents


class Rules(unittest.TestCase):
    def test_the_example_of_the_document(self):
        self.assertEqual(sequents("ax a", "ax b", "tensor 0 0 1 0", "par 2 0 1"),
                         ["a, ~a", "b, ~b", "~a, ~b, a*b", "a*b, ~a|~b"])

    def test_axiom(self):
        self.assertEqual(last_sequent("ax a&!b"), "a&!b, ~a+?~b")

    def test_cut(self):
        self.assertEqual(last_sequent("ax a", "ax a", "cut 0 0 1 1"), "~a, a")
        self.assertEqual(last_sequent("ax a", "ax a", "cut 1 1 0 0"), "a, ~a")
        self.assertEqual(last_sequent("ax a*b", "weak 0 c", "ax ~(a*b)", "cut 1 1 2 1"), "a*b, ?c, ~a|~b")

    def test_tensor(self):
        self.assertEqual(last_sequent("ax a", "ax b", "tensor 0 1 1 0"), "a, ~b, ~a*b")
        self.assertEqual(last_sequent("ax a", "ax b", "tensor 1 0 0 0"), "~b, ~a, b*a")

    def test_par(self):
        self.assertEqual(last_sequent("ax a", "weak 0 b", "par 1 0 2"), "~a, a|?b")
        self.assertEqual(last_sequent("ax a", "weak 0 b", "par 1 2 0"), "~a, ?b|a")

    def test_with(self):
        self.assertEqual(last_sequent("ax a", "ax a", "with 0 0 1 0"), "~a, a&a")
        self.assertEqual(last_sequent("ax a", "ax ~a", "with 0 0 1 1"), "~a, a&a")
        self.assertEqual(
            last_sequent("ax a", "weak 0 b", "ax a", "weak 2 b", "plus1 3 0 c", "with 1 0 4 2"),
            "~a, ?b, a&(a+c)")

    def test_plus(self):
        self.assertEqual(last_sequent("ax a", "plus1 0 0 b*c"), "~a, a+(b*c)")
        self.assertEqual(last_sequent("ax a", "plus2 0 0 b*c"), "~a, (b*c)+a")
        self.assertEqual(last_sequent("ax a", "plus1 0 1 b -o c"), "a, ~a+(~b|c)")

    def test_derelict(self):
        self.assertEqual(last_sequent("ax a", "der 0 0"), "~a, ?a")
        self.assertEqual(last_sequent("ax a|b", "der 0 0"), "~a*~b, ?(a|b)")

    def test_weaken(self):
        self.assertEqual(last_sequent("ax a", "weak 0 ~b"), "a, ~a, ?~b")

    def test_contract(self):
        self.assertEqual(last_sequent("ax a", "weak 0 b", "weak 1 b", "con 2 2 3"), "a, ~a, ?b")
        self.assertEqual(last_sequent("ax ?a", "weak 0 a", "con 1 2 0"), "!~a, ?a")

    def test_promote(self):
        self.assertEqual(last_sequent("ax a", "der 0 1", "prom 1 0"), "?~a, !a")
        self.assertEqual(last_sequent("ax a", "par 0 0 1", "prom 1 0"), "!(a|~a)")
        self.assertEqual(last_sequent("ax !a", "prom 0 0"), "?~a, !!a")

    def test_exchange(self):
        self.assertEqual(last_sequent("ax a", "weak 0 b", "ex 1 0 2"), "?b, ~a, a")
        self.assertEqual(last_sequent("ax a", "weak 0 b", "ex 1 2 1"), "a, ?b, ~a")


class NoFits(unittest.TestCase):
    def test_cut_needs_duals(self):
        self.assertEqual(reason("cut 0 0 1 0", "ax a", "ax a"), 5)
        self.assertEqual(reason("cut 0 0 1 1", "ax a", "ax b"), 5)
        self.assertEqual(reason("cut 0 0 1 1", "ax a*b", "ax b*a"), 5)
        self.assertEqual(reason("cut 0 0 1 1", "ax a*b*c", "ax (a*b)*c"), 5)
        self.assertEqual(reason("cut 0 0 1 0", "ax a*b", "ax ~a|~b"), 0)

    def test_with_needs_the_same_list(self):
        self.assertEqual(reason("with 0 0 1 0", "ax a", "ax b"), 5)
        self.assertEqual(reason("with 0 0 1 0", "ax a", "ax b", "ax a", "plus1 2 0 c"), 5)
        self.assertEqual(reason("with 1 0 2 0", "ax a", "weak 0 b", "ax a"), 5)
        self.assertEqual(reason("with 1 0 4 0", "ax a", "weak 0 b", "ax a", "weak 2 b", "ex 3 1 2"), 5)
        self.assertEqual(reason("with 1 0 3 0", "ax a", "weak 0 b", "ax a", "weak 2 b"), 0)

    def test_contract_needs_one_why_not_twice(self):
        self.assertEqual(reason("con 0 0 1", "ax a"), 5)
        self.assertEqual(reason("con 1 0 2", "ax a", "weak 0 a"), 5)
        self.assertEqual(reason("con 1 2 0", "ax a", "weak 0 a"), 5)
        self.assertEqual(reason("con 2 2 3", "ax a", "weak 0 a", "weak 1 b"), 5)
        self.assertEqual(reason("con 2 0 2", "ax !a", "ax !a", "tensor 0 1 1 1"), 5)
        self.assertEqual(reason("con 2 2 3", "ax a", "weak 0 a", "weak 1 a"), 0)

    def test_equal_formulas_that_are_no_why_not_are_not_contracted(self):
        self.assertEqual(reason("con 2 0 1", "ax a", "ax a", "tensor 0 1 1 1"), 5)
        self.assertEqual(reason("con 2 0 1", "ax !a", "ax !a", "tensor 0 1 1 1"), 5)

    def test_promote_needs_why_nots_beside(self):
        self.assertEqual(reason("prom 0 0", "ax a"), 5)
        self.assertEqual(reason("prom 1 2", "ax a", "weak 0 b"), 5)
        self.assertEqual(reason("prom 0 1", "ax !a"), 5)
        self.assertEqual(reason("prom 0 0", "ax !a"), 0)


if __name__ == "__main__":
    unittest.main()
