"""How calls and answers are laid out, and that nothing is changed or kept."""

import unittest

from countproofs.desk import answers
from deskcalls import DROP, OPEN, TEXT, line, lines, proof, rule, sequent, under


def laid_out(*calls):
    return [number for call in calls for number in call]


SESSION = laid_out(
    lines("ax a", "ax b", "tensor 0 0 1 0"), line("par 2 0 1"), line("par 2 0 0"), TEXT, sequent(3), rule(2), rule(9), OPEN,
    under(3), DROP, proof("ax a\nax"), line("ax a -o b"), TEXT)


class Layout(unittest.TestCase):
    def test_a_session_number_by_number(self):
        calls = [1, 4, 97, 120, 32, 97, 4, 0, 5, 0, 6, 7, 0, 3, 2, 2, 4, 0, 0, 0, 1, 0]
        self.assertEqual(answers(calls), [
            1, 1,
            6, 5, 97, 44, 32, 126, 97,
            2, 0, 0,
            2, 1, 0,
            2, 1, 0,
            6, 5, 97, 120, 32, 97, 10,
            1, 0,
            1, -8,
            1, -2,
            2, 0, 0,
            1, -1])

    def test_rows_may_hold_what_looks_like_calls(self):
        self.assertEqual(answers([0, 3, 0, 1, 2, 3]), [2, 1, 1, 1, 0])

    def test_only_whole_numbers(self):
        given_back = answers(SESSION)
        self.assertIs(type(given_back), list)
        self.assertEqual({type(number) for number in given_back}, {int})

    def test_the_longest_rows(self):
        self.assertEqual(answers(line(b"a" * 15900)), [1, -1])
        self.assertEqual(answers(proof(b"\n" * 15900)), [2, 1, 1])
        self.assertEqual(answers(line(b"der " + b"9" * 15896)), [1, -1])
        self.assertEqual(answers(line(b"ax " + b"(" * 15897)), [1, -1])

    def test_four_hundred_calls(self):
        self.assertEqual(answers(line("ax a") * 200 + DROP * 200)[-2:], [1, 0])


class NothingKept(unittest.TestCase):
    def test_the_list_is_unchanged(self):
        calls = list(SESSION)
        answers(calls)
        self.assertEqual(calls, SESSION)

    def test_a_second_time_is_as_the_first(self):
        first = answers(SESSION)
        kept = list(first)
        self.assertEqual(answers(SESSION), kept)
        first.clear()
        self.assertEqual(answers(SESSION), kept)
        self.assertEqual(answers(TEXT + OPEN + DROP), [1, 0, 1, 0, 1, -8])

    def test_the_list_is_not_changed_for_a_while(self):
        class Watched(list):
            def refuse(self, *rest):
                raise AssertionError("changed")
            append = extend = insert = pop = remove = clear = reverse = sort = refuse
            __setitem__ = __delitem__ = __iadd__ = __imul__ = refuse
        self.assertEqual(answers(Watched(SESSION)), answers(SESSION))


if __name__ == "__main__":
    unittest.main()
