"""How calls and answers are laid out, and that nothing is changed or kept."""

import unittest

from countproofs.desk import answers
from deskcalls import (
    DROP, OPEN, SPREAD, TEXT, balance, facts, fill, find, keep, line, lines, part, proof, rename, rule, sequent, under)


def laid_out(*calls):
    return [number for call in calls for number in call]


SESSION = laid_out(
    lines("ax a", "ax b", "tensor 0 0 1 0"), line("par 2 0 1"), line("par 2 0 0"), TEXT, sequent(3), rule(2), rule(9), OPEN,
    under(3), DROP, proof("ax a\nax"), line("ax a -o b"), TEXT, facts(2), find("~a, ~b, a*b"), find("a,"), part(3), rename("a", "c"),
    rename("a", "C"), fill("b", "d&!e"), fill("c", "!" * 39 + "c"), balance(2), SPREAD, TEXT, keep(3), TEXT, balance(9))


class Layout(unittest.TestCase):
    def test_a_session_number_by_number(self):
        calls = [1, 4, 97, 120, 32, 97, 4, 0, 5, 0, 6, 7, 0, 3, 2, 2, 4, 0, 0, 0, 1, 0]
        self.assertEqual(answers(calls), [
            1, 1,
            6, 5, 97, 44, 32, 126, 97,
            2, 0, 0,
            2, 1, 0,
            2, 1, 0,
            6, 5, 97, 120, 32, 97, 10,
            1, 0,
            1, -8,
            1, -2,
            2, 0, 0,
            1, -1])

    def test_the_later_calls_number_by_number(self):
        calls = [1, 4, 97, 120, 32, 97, 1, 5, 97, 120, 32, 33, 98, 8, 0, 9, 5, 97, 44, 32, 126, 97, 9, 0, 9, 1, 44, 10, 0,
                 12, 1, 97, 1, 99, 12, 0, 0, 13, 1, 99, 2, 126, 99, 13, 1, 98, 0, 15, 0, 14, 15, 5, 11, 0, 11, 1, 15, -1]
        self.assertEqual(answers(calls), [
            1, 1,
            1, 2,
            13, 1, 1, 0, 0, 0, 0, 0, 0, 0, 0, 0, 0, 0,
            2, 1, 0,
            1, 0,
            1, -1,
            6, 5, 97, 120, 32, 97, 10,
            1, 2,
            1, -1,
            1, 2,
            1, -1,
            5, 1, 1, 99, 1, 1,
            1, 5,
            1, -2,
            1, 1,
            1, -2,
            1, -2])

    def test_rows_may_hold_what_looks_like_calls(self):
        self.assertEqual(answers([0, 3, 0, 1, 2, 3]), [2, 1, 1, 1, 0])

    def test_only_whole_numbers(self):
        given_back = answers(SESSION)
        self.assertIs(type(given_back), list)
        self.assertEqual({type(number) for number in given_back}, {int})

    def test_the_longest_rows(self):
        self.assertEqual(answers(line(b"a" * 15900)), [1, -1])
        self.assertEqual(answers(proof(b"\n" * 15900)), [2, 1, 1])
        self.assertEqual(answers(line(b"der " + b"9" * 15896)), [1, -1])
        self.assertEqual(answers(line(b"ax " + b"(" * 15897)), [1, -1])
        self.assertEqual(answers(find(b"a" * 15900)), [1, -1])
        self.assertEqual(answers(find(b"," * 15900)), [1, -1])
        self.assertEqual(answers(find(b" " * 15900)), [1, 0])
        self.assertEqual(answers(rename(b"a" * 15900, b"a")), [1, -1])
        self.assertEqual(answers(rename(b"a", b"a" * 15900)), [1, -1])
        self.assertEqual(answers(fill(b"a", b"~" * 15900)), [1, -1])
        self.assertEqual(answers(fill(b"a" * 15900, b"a")), [1, -1])

    def test_four_hundred_calls(self):
        self.assertEqual(answers(line("ax a") * 200 + DROP * 200)[-2:], [1, 0])
        self.assertEqual(answers(line("ax a*b") + SPREAD * 399), [1, 1] + [1, 4] * 399)

    def test_long_answers(self):
        long_names = "*".join(["abcdefghij12"] * 40)
        given_back = answers(lines(*["ax a"] * 200) + fill("a", long_names) + TEXT + TEXT)
        length = 200 * (len("ax ") + len(long_names) + 1)
        self.assertEqual(given_back[:6], [2, 0, 200, 1, 200, length + 1])
        self.assertEqual(len(given_back), 5 + 2 * (length + 2))


class NothingKept(unittest.TestCase):
    def test_the_list_is_unchanged(self):
        calls = list(SESSION)
        answers(calls)
        self.assertEqual(calls, SESSION)

    def test_a_second_time_is_as_the_first(self):
        first = answers(SESSION)
        kept = list(first)
        self.assertEqual(answers(SESSION), kept)
        first.clear()
        self.assertEqual(answers(SESSION), kept)
        self.assertEqual(answers(TEXT + OPEN + DROP), [1, 0, 1, 0, 1, -8])

    def test_the_list_is_not_changed_for_a_while(self):
        class Watched(list):
            def refuse(self, *rest):
                raise AssertionError("changed")
            append = extend = insert = pop = remove = clear = reverse = sort = refuse
            __setitem__ = __delitem__ = __iadd__ = __imul__ = refuse
        self.assertEqual(answers(Watched(SESSION)), answers(SESSION))


if __name__ == "__main__":
    unittest.main()
