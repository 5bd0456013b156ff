"""How formulas are read and written, their duals and their bounds."""

import unittest

from deskcalls import balanced, form, last_sequent, line, reason, run


class Forms(unittest.TestCase):
    def test_atoms(self):
        self.assertEqual(form("a"), "a")
        self.assertEqual(form("~a"), "~a")
        self.assertEqual(form("z9"), "z9")
        self.assertEqual(form("o"), "o")

    def test_each_sign(self):
        for text in ("a*b", "a|b", "a&b", "a+b", "!a", "?a", "!~a", "?!a", "~a*~b"):
            self.assertEqual(form(text), text)

    def test_no_brackets_for_a_second_one_of_the_same_sign(self):
        for sign in "*|&+":
            self.assertEqual(form(f"a{sign}(b{sign}c)"), f"a{sign}b{sign}c")
            self.assertEqual(form(f"a{sign}b{sign}c"), f"a{sign}b{sign}c")

    def test_brackets_for_a_first_one_of_two(self):
        for sign in "*|&+":
            for inner in "*|&+":
                self.assertEqual(form(f"(a{sign}b){inner}c"), f"(a{sign}b){inner}c")

    def test_brackets_for_a_second_one_of_another_sign(self):
        self.assertEqual(form("a*(b|c)"), "a*(b|c)")
        self.assertEqual(form("a&(b+c)&d"), "a&(b+c)&d")

    def test_brackets_behind_of_course_and_why_not(self):
        self.assertEqual(form("!(a*b)"), "!(a*b)")
        self.assertEqual(form("?(a&b)"), "?(a&b)")
        self.assertEqual(form("!(?a)"), "!?a")
        self.assertEqual(form("(!a)*(?b)"), "!a*?b")
        self.assertEqual(form("!a*b"), "!a*b")

    def test_needless_brackets_go(self):
        self.assertEqual(form("((a))"), "a")
        self.assertEqual(form("(a*b)"), "a*b")
        self.assertEqual(form("(~a)|(b)"), "~a|b")

    def test_blanks_mean_nothing(self):
        self.assertEqual(form("  a  *  ( b|c )  "), "a*(b|c)")
        self.assertEqual(form("~ a"), "~a")
        self.assertEqual(form("a -o b"), "~a|b")


class Duals(unittest.TestCase):
    def test_the_second_of_an_axiom_is_the_dual(self):
        for text, dual in (
            ("a", "~a"), ("~a", "a"), ("a*b", "~a|~b"), ("a|b", "~a*~b"), ("a&b", "~a+~b"), ("a+b", "~a&~b"),
            ("!a", "?~a"), ("?a", "!~a"), ("a*(b&!c)", "~a|(~b+?~c)"), ("(a*b)*c", "(~a|~b)|~c"),
        ):
            self.assertEqual(last_sequent("ax " + text), f"{text}, {dual}")
            self.assertEqual(last_sequent("ax " + dual), f"{dual}, {text}")

    def test_the_turning_sign_goes_in(self):
        self.assertEqual(form("~~a"), "a")
        self.assertEqual(form("~(a*b)"), "~a|~b")
        self.assertEqual(form("~!a"), "?~a")
        self.assertEqual(form("!~?a"), "!!~a")
        self.assertEqual(form("~a*b"), "~a*b")
        self.assertEqual(form("~(a -o b)"), "a*~b")

    def test_arrow(self):
        self.assertEqual(form("a-ob"), "~a|b")
        self.assertEqual(form("a-oo"), "~a|o")
        self.assertEqual(form("a-ob-oc"), "~a|~b|c")
        self.assertEqual(form("(a-ob)-oc"), "(a*~b)|c")
        self.assertEqual(form("a*b -o c&d"), "(~a|~b)|(c&d)")
        self.assertEqual(form("a*b*c -o d -o e"), "(~a|~b|~c)|~d|e")
        self.assertEqual(form("!a -o b"), "?~a|b")
        self.assertEqual(form("a*(b -o c)"), "a*(~b|c)")


class NoFormulas(unittest.TestCase):
    def test_wrong_order_of_tokens(self):
        for text in (
            "", " ", "*", "a*", "*a", "a b", "a**b", "a~", "a~b", "a!", "!", "?", "~", "()", "(a", "a)", "(a))", ")a(",
            "a(b)", "(a)b", "(a)(b)", "-o", "a-o", "-oa", "a-o-ob", "a*-ob", "(a*)", "(a-o)", "a!b", "~*a",
        ):
            self.assertIsNone(form(text), text)

    def test_a_chain_has_one_sign(self):
        for text in ("a*b|c", "a|b*c", "a&b+c", "a*b*c+d", "(a*b|c)", "a*(b)|c", "a -o b*c|d", "a*!b&c"):
            self.assertIsNone(form(text), text)

    def test_bytes_that_are_no_token(self):
        for text in ("a-", "a - o b", "-", "a,b", "a\tb", "a\n", "\na", "A", "aB", "a_b", "a.b", "\x00a", "a\xff", "a#",
                     "a%b", "a -O b", "[a]", "a\r", "\xa0a", "a=b", "^a"):
            self.assertIsNone(form(text), text)

    def test_each_byte_that_is_no_sign(self):
        signs = b"abcdefghijklmnopqrstuvwxyz0123456789 "
        for code in range(256):
            answer = run(line(b"ax a" + bytes([code])))[0]
            self.assertEqual(answer, [1] if code in signs else [-1], code)

    def test_names(self):
        self.assertEqual(form("abcdefghij12"), "abcdefghij12")
        self.assertIsNone(form("abcdefghij123"))
        self.assertIsNone(form("1a"))
        self.assertIsNone(form("0"))
        self.assertIsNone(form("a*1"))
        self.assertIsNone(form("a-o1"))
        self.assertEqual(form("a-oabcdefghij12"), "~a|abcdefghij12")
        self.assertIsNone(form("a-oabcdefghij123"))


class Bounds(unittest.TestCase):
    def test_sixty_atoms(self):
        self.assertIsNotNone(form(balanced(60)))
        self.assertIsNone(form(balanced(61)))

    def test_two_hundred_nodes(self):
        # 60 marked atoms and 59 signs between them make 179 nodes.
        marked = balanced(60).replace("a", "!a")
        self.assertIsNotNone(form("?" * 21 + marked))
        self.assertIsNone(form("?" * 22 + marked))

    def test_nodes_alone_go_past(self):
        within = "&".join(["!" * 9 + "a"] * 18) + "&!a"
        self.assertIsNotNone(form(within))
        self.assertEqual(18 * 10 + 2 + 18, 200)
        self.assertIsNone(form(within[:-2] + "!!a"))

    def test_depth_forty(self):
        self.assertIsNotNone(form("!" * 39 + "a"))
        self.assertIsNone(form("!" * 40 + "a"))
        self.assertIsNotNone(form("*".join("a" * 40)))
        self.assertIsNone(form("*".join("a" * 41)))
        self.assertIsNotNone(form("(" * 38 + "a*b" + ")*c" * 38))
        self.assertIsNone(form("(" * 39 + "a*b" + ")*c" * 39))
        self.assertIsNotNone(form(" -o ".join("a" * 40)))
        self.assertIsNone(form(" -o ".join("a" * 41)))

    def test_two_thousand_bytes(self):
        self.assertEqual(form("a" + " " * 1999), "a")
        self.assertIsNone(form("a" + " " * 2000))
        self.assertEqual(form(" " * 1997 + "a*b"), "a*b")
        self.assertIsNone(form(" " * 1998 + "a*b"))
        self.assertEqual(reason("plus1 0 0 " + " " * 1999 + "a", "ax a"), 0)
        self.assertEqual(reason("plus1 0 0 " + " " * 2000 + "a", "ax a"), 1)

    def test_a_hundred_open(self):
        self.assertEqual(form("~" * 100 + "a"), "a")
        self.assertIsNone(form("~" * 101 + "a"))
        self.assertEqual(form("(" * 100 + "a" + ")" * 100), "a")
        self.assertIsNone(form("(" * 101 + "a" + ")" * 101))
        self.assertEqual(form("(~" * 50 + "a" + ")" * 50), "a")
        self.assertIsNone(form("(~" * 50 + "~a" + ")" * 50))

    def test_marks_arrows_and_chain_signs_are_open_too(self):
        self.assertEqual(form("!?" + "~" * 98 + "a"), "!?a")
        self.assertIsNone(form("!?" + "~" * 99 + "a"))
        self.assertEqual(form("a*b*" + "~" * 98 + "c"), "a*b*c")
        self.assertIsNone(form("a*b*" + "~" * 99 + "c"))
        self.assertEqual(form("a -o b -o " + "~" * 98 + "c"), "~a|~b|c")
        self.assertIsNone(form("a -o b -o " + "~" * 99 + "c"))

    def test_what_has_ended_is_open_no_more(self):
        self.assertEqual(form("~" * 100 + "a*" + "~" * 99 + "b"), "a*~b")
        self.assertEqual(form("(" * 100 + "a" + ")" * 100 + "*" + "(" * 99 + "b" + ")" * 99), "a*b")
        self.assertEqual(form("a*b*c -o " + "~" * 99 + "d"), "(~a|~b|~c)|~d")
        self.assertIsNone(form("a*b*c -o " + "~" * 100 + "d"))
        self.assertEqual(form("~(a*b -o c)*" + "~" * 99 + "d"), "((a*b)*~c)*~d")
        self.assertEqual(form("(a -o b)&" + "~" * 99 + "c"), "(~a|b)&~c")

    def test_nests_that_are_far_too_deep(self):
        for text in ("(" * 2000, "~" * 2000, "!" * 1999 + "a", "(" * 999 + "aa" + ")" * 999, "a*" * 999 + "a",
                     "a-o" * 600 + "a"):
            self.assertLessEqual(len(text), 2000)
            self.assertIsNone(form(text))


if __name__ == "__main__":
    unittest.main()
