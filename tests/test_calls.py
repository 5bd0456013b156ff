"""The calls proof, line, drop, text, sequent, rule, open and under."""

import unittest

from deskcalls import (
    DROP, EVERY_KIND, EXAMPLE, FAR, OPEN, TEXT, counted_text, line, lines, proof, rule, run, sequent, under)


class ProofCall(unittest.TestCase):
    def test_how_many_lines(self):
        self.assertEqual(run(lines(*EXAMPLE)), [[0, 4]])
        self.assertEqual(run(lines(*EVERY_KIND)), [[0, len(EVERY_KIND)]])

    def test_no_bytes(self):
        self.assertEqual(run(lines(*EXAMPLE), proof(""), TEXT, OPEN, DROP), [[0, 4], [0, 0], [0], [0], [-8]])

    def test_the_last_end_may_be_missing(self):
        self.assertEqual(run(proof("ax a\nax b"), TEXT), [[0, 2], counted_text("ax a\nax b\n")])
        self.assertEqual(run(proof("ax a"), TEXT), [[0, 1], counted_text("ax a\n")])

    def test_empty_lines_are_faulty(self):
        self.assertEqual(run(proof("\n")), [[1, 1]])
        self.assertEqual(run(proof("ax a\n\nax b\n")), [[2, 1]])
        self.assertEqual(run(proof("ax a\n\n")), [[2, 1]])
        self.assertEqual(run(proof("\nax a")), [[1, 1]])
        self.assertEqual(run(proof("ax a\n ")), [[2, 1]])
        self.assertEqual(run(proof("ax a\r\nax b\r\n")), [[1, 1]])

    def test_the_first_fault_is_told(self):
        self.assertEqual(run(lines("ax a", "der 0 0", "der 0 0", "ax a*")), [[3, 3]])
        self.assertEqual(run(lines("ax a", "der 1 0")), [[2, 2]])
        self.assertEqual(run(lines("der 0 0", "ax a")), [[1, 2]])
        self.assertEqual(run(lines("ax a", "par 0 0 0")), [[2, 4]])
        self.assertEqual(run(lines("ax a", "prom 0 0")), [[2, 5]])
        self.assertEqual(run(lines("ax " + "!" * 39 + "a", "der 0 0")), [[2, 6]])
        self.assertEqual(run(proof("ax a*")), [[1, 1]])

    def test_two_hundred_lines(self):
        self.assertEqual(run(lines(*["ax a"] * 200)), [[0, 200]])
        self.assertEqual(run(lines(*["ax a"] * 201)), [[201, 7]])
        self.assertEqual(run(lines(*["ax a"] * 200, "ax")), [[201, 1]])

    def test_a_fault_changes_nothing(self):
        found = run(lines(*EXAMPLE), TEXT, lines("ax c", "ax d", "ax e*"), TEXT, OPEN, sequent(0))
        self.assertEqual(found[2], [3, 1])
        self.assertEqual(found[3], found[1])
        self.assertEqual(found[4], [1, 3])
        self.assertEqual(found[5], counted_text("a, ~a"))

    def test_lines_are_read_behind_those_of_the_text_alone(self):
        self.assertEqual(run(lines("ax a"), lines("der 0 0")), [[0, 1], [1, 2]])
        self.assertEqual(run(lines("ax a", "der 0 0"), lines("ax b", "der 0 1"), sequent(1)),
                         [[0, 2], [0, 2], counted_text("b, ?~b")])
        self.assertEqual(run(lines(*["ax a"] * 200), lines("ax b"), TEXT), [[0, 200], [0, 1], counted_text("ax b\n")])


class LineAndDrop(unittest.TestCase):
    def test_line_by_line(self):
        self.assertEqual(run(*[line(text) for text in EXAMPLE], TEXT),
                         [[1], [2], [3], [4], counted_text("\n".join(EXAMPLE) + "\n")])

    def test_refusals(self):
        self.assertEqual(
            run(line(""), line("der 0 0"), line("ax a"), line("der 0 2"), line("prom 0 0"), line("der 0 0"), line("der 0 0"),
                line("ax b\n"), line("ax b\nax c")),
            [[-1], [-2], [1], [-4], [-5], [2], [-3], [-1], [-1]])

    def test_drop(self):
        self.assertEqual(run(DROP), [[-8]])
        self.assertEqual(run(lines(*EXAMPLE), DROP, DROP, DROP, DROP, DROP, TEXT),
                         [[0, 4], [3], [2], [1], [0], [-8], [0]])

    def test_a_dropped_line_uses_nothing(self):
        self.assertEqual(run(lines(*EXAMPLE), DROP, OPEN, DROP, OPEN, line("der 0 0"), sequent(2), TEXT),
                         [[0, 4], [3], [1, 2], [2], [2, 0, 1], [3], counted_text("~a, ?a"),
                          counted_text("ax a\nax b\nder 0 0\n")])


class TextCall(unittest.TestCase):
    def test_every_kind(self):
        self.assertEqual(run(lines(*EVERY_KIND), TEXT)[1], counted_text("\n".join(EVERY_KIND) + "\n"))

    def test_formulas_have_their_form(self):
        found = run(lines("ax ( a ) -o b", "plus1 0 0  ~(c*d)", "plus2 1 0 c*(d*e)", "weak 2 ((f))"), TEXT)
        self.assertEqual(found[1], counted_text("ax ~a|b\nplus1 0 0 ~c|~d\nplus2 1 0 c*d*e\nweak 2 f\n"))

    def test_without_lines(self):
        self.assertEqual(run(TEXT), [[0]])

    def test_the_text_is_read_as_the_same_proof(self):
        text = bytes(run(lines(*EVERY_KIND), TEXT)[1][1:])
        asked = [call(number) for number in range(len(EVERY_KIND)) for call in (sequent, rule, under)]
        self.assertEqual(run(proof(text), *asked), run(lines(*EVERY_KIND), *asked))


class SequentCall(unittest.TestCase):
    def test_every_kind(self):
        found = run(lines(*EVERY_KIND), *[sequent(number) for number in range(len(EVERY_KIND))])
        self.assertEqual([bytes(answer[1:]).decode() for answer in found[1:]], [
            "a, ~a", "~a, a", "~a, a", "b, ~b", "a, b, ~a*~b", "~a*~b, a|b", "c, ~c", "c, ~c", "c, ~c&~c", "~c&~c, c+(d&e)",
            "~c&~c, (d|e)+c+(d&e)", "(d|e)+c+(d&e), ?(~c&~c)",
            "(d|e)+c+(d&e), ?(~c&~c), ?(f*g)", "(d|e)+c+(d&e), ?(~c&~c), ?(f*g), ?(f*g)",
            "(d|e)+c+(d&e), ?(~c&~c), ?(f*g)", "!h, ?~h", "?~h, !!h", "?(f*g), ?(~c&~c), (d|e)+c+(d&e)"])
        for answer in found[1:]:
            self.assertEqual(answer[0], len(answer) - 1)


class RuleCall(unittest.TestCase):
    def test_every_kind(self):
        found = run(lines(*EVERY_KIND), *[rule(number) for number in range(len(EVERY_KIND))])
        self.assertEqual(found[1:], [
            [0, 0], [0, 0], [1, 2, 0, 1], [0, 0], [2, 2, 2, 3], [3, 1, 4], [0, 0], [0, 0], [4, 2, 6, 7], [5, 1, 8], [6, 1, 9],
            [7, 1, 10], [8, 1, 11], [8, 1, 12], [9, 1, 13], [0, 0], [10, 1, 15], [11, 1, 14]])

    def test_the_order_of_the_premises(self):
        self.assertEqual(run(lines("ax a", "ax b", "tensor 1 0 0 0"), rule(2))[1], [2, 2, 1, 0])


class OpenCall(unittest.TestCase):
    def test_open_lines(self):
        self.assertEqual(run(OPEN), [[0]])
        self.assertEqual(run(lines("ax a", "ax b", "ax c"), OPEN)[1], [3, 0, 1, 2])
        self.assertEqual(run(lines(*EXAMPLE), OPEN)[1], [1, 3])
        self.assertEqual(run(lines("ax a", "ax b", "ax c", "der 1 0"), OPEN)[1], [3, 0, 2, 3])
        self.assertEqual(run(lines(*EVERY_KIND), OPEN)[1], [3, 5, 16, 17])


class UnderCall(unittest.TestCase):
    def test_lines_under(self):
        self.assertEqual(run(lines(*EXAMPLE), *[under(number) for number in range(4)])[1:],
                         [[1, 0], [1, 1], [3, 0, 1, 2], [4, 0, 1, 2, 3]])
        self.assertEqual(run(lines(*EVERY_KIND), under(5), under(16), under(17), under(8))[1:], [
            [6, 0, 1, 2, 3, 4, 5], [2, 15, 16], [10, 6, 7, 8, 9, 10, 11, 12, 13, 14, 17], [3, 6, 7, 8]])

    def test_rising_whatever_the_order_of_premises(self):
        self.assertEqual(run(lines("ax a", "ax b", "ax c", "der 0 0", "tensor 2 0 3 0"), under(4))[1], [4, 0, 2, 3, 4])

    def test_a_long_way_down(self):
        texts = ["ax a"] + [f"ex {number} 0 1" for number in range(199)]
        self.assertEqual(run(lines(*texts), under(199))[1], [200] + list(range(200)))


class NoSuchLine(unittest.TestCase):
    def test_numbers_of_no_line(self):
        for call in (sequent, rule, under):
            self.assertEqual(run(call(0)), [[-2]])
            for number in (4, 5, 200, -1, -2, -4, FAR, -FAR):
                self.assertEqual(run(lines(*EXAMPLE), call(number)), [[0, 4], [-2]])
            self.assertEqual(run(lines(*EXAMPLE), DROP, call(3), call(2))[2], [-2])

    def test_a_refusal_changes_nothing(self):
        found = run(lines(*EXAMPLE), TEXT, sequent(4), rule(-1), under(FAR), TEXT, OPEN)
        self.assertEqual(found[1], found[5])
        self.assertEqual(found[6], [1, 3])


if __name__ == "__main__":
    unittest.main()
