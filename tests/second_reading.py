"""The document's words a second time, by recursion over tuples, to hold the program against."""

import re

TOKEN = re.compile(r" |[a-z0-9]+|-o|[~*|&+!?()]")
DUAL = {"*": "|", "|": "*", "&": "+", "+": "&", "!": "?", "?": "!"}
KINDS = "ax cut tensor par with plus1 plus2 der weak con prom ex".split()
NUMBERS = {"cut": 4, "tensor": 4, "with": 4, "par": 3, "con": 3, "ex": 3, "der": 2, "prom": 2,
           "ax": 0, "weak": 1, "plus1": 2, "plus2": 2}
WITH_FORMULA = ("ax", "weak", "plus1", "plus2")


class NoFormula(Exception):
    pass


def dual(tree):
    if tree[0] == "atom":
        return ("atom", tree[1], not tree[2])
    return (DUAL[tree[0]],) + tuple(dual(part) for part in tree[1:])


def form(tree):
    if tree[0] == "atom":
        return "~" * tree[2] + tree[1]
    if len(tree) == 2:
        inner = form(tree[1])
        return tree[0] + (f"({inner})" if tree[1][0] in set("*|&+") else inner)
    first, second = form(tree[1]), form(tree[2])
    if tree[1][0] in set("*|&+"):
        first = f"({first})"
    if tree[2][0] in set("*|&+") - {tree[0]}:
        second = f"({second})"
    return first + tree[0] + second


def all_nodes(tree):
    found = [tree]
    if tree[0] != "atom":
        for part in tree[1:]:
            found += all_nodes(part)
    return found


def depth(tree):
    return 1 if tree[0] == "atom" else 1 + max(depth(part) for part in tree[1:])


def in_bounds(tree):
    nodes = all_nodes(tree)
    return len(nodes) <= 200 and sum(node[0] == "atom" for node in nodes) <= 60 and depth(tree) <= 40


def tokens_of(text):
    tokens = []
    place = 0
    while place < len(text):
        match = TOKEN.match(text, place)
        if not match:
            raise NoFormula
        place = match.end()
        token = match.group()
        if token[0].isalnum() and not (token[0].isalpha() and len(token) <= 12):
            raise NoFormula
        if token != " ":
            tokens.append(token)
    return tokens + ["."]


def formula_at(tokens, place, opened):
    first, place = chain_at(tokens, place, opened, None)
    if tokens[place] == "-o":
        second, place = formula_at(tokens, place + 1, opened + 1)
        return ("|", dual(first), second), place
    return first, place


def chain_at(tokens, place, opened, sign):
    first, place = part_at(tokens, place, opened)
    if tokens[place] in ("*", "|", "&", "+"):
        if sign not in (None, tokens[place]):
            raise NoFormula
        sign = tokens[place]
        second, place = chain_at(tokens, place + 1, opened + 1, sign)
        return (sign, first, second), place
    return first, place


def part_at(tokens, place, opened):
    token = tokens[place]
    if opened + (token in ("(", "~", "!", "?")) > 100:
        raise NoFormula
    if token == "~":
        inner, place = part_at(tokens, place + 1, opened + 1)
        return dual(inner), place
    if token in ("!", "?"):
        inner, place = part_at(tokens, place + 1, opened + 1)
        return (token, inner), place
    if token == "(":
        inner, place = formula_at(tokens, place + 1, opened + 1)
        if tokens[place] != ")":
            raise NoFormula
        return inner, place + 1
    if not token[0].isalpha():
        raise NoFormula
    return ("atom", token, False), place + 1


def read(text):
    """The tree of a text that is a formula in bounds, or None."""
    if len(text) > 2000:
        return None
    try:
        tokens = tokens_of(text)
        tree, place = formula_at(tokens, 0, 0)
    except NoFormula:
        return None
    return tree if place == len(tokens) - 1 and in_bounds(tree) else None


class SecondProof:
    """A list of (kind, premises, places, tree, sequent)."""

    def __init__(self):
        self.lines = []

    def add(self, text):
        """The reason of the text's fault; 0 if it is the next line now."""
        line = self.cut(text)
        if line is None:
            return 1
        kind, premises, places, tree = line
        if not all(premise < len(self.lines) for premise in premises):
            return 2
        used = [premise for other in self.lines for premise in other[1]]
        if set(used) & set(premises) or len(set(premises)) < len(premises):
            return 3
        sources = [self.lines[premise][4] for premise in premises]
        if len(sources) == 1:
            if any(place >= len(sources[0]) for place in places) or len(set(places)) < len(places):
                return 4
        elif any(place >= len(source) for place, source in zip(places, sources)):
            return 4
        sequent = self.make(kind, sources, places, tree)
        if sequent is None:
            return 5
        if len(sequent) > 20 or not all(in_bounds(one) for one in sequent):
            return 6
        if len(self.lines) == 200:
            return 7
        self.lines.append((kind, premises, places, tree, sequent))
        return 0

    def cut(self, text):
        match = re.match(r"([a-z]+[12]?)((?: (?:0|[1-9][0-9]*))*)", text)
        if not match or match.group(1) not in KINDS:
            return None
        kind = match.group(1)
        pattern = kind + r" (0|[1-9][0-9]*)" * NUMBERS[kind] + (r" (.*)" if kind in WITH_FORMULA else "")
        match = re.fullmatch(pattern, text, re.DOTALL)
        if not match:
            return None
        groups = list(match.groups())
        tree = read(groups.pop()) if kind in WITH_FORMULA else ()
        if tree is None:
            return None
        numbers = [int(group) for group in groups]
        if len(numbers) == 4:
            return kind, numbers[0::2], numbers[1::2], tree
        return kind, numbers[:1], numbers[1:], tree

    def make(self, kind, sources, places, tree):
        if kind == "ax":
            return [tree, dual(tree)]
        if kind == "weak":
            return sources[0] + [("?", tree)]
        two = len(sources) == 2
        left = list(sources[0])
        right = list(sources[1]) if two else left
        one = left[places[0]]
        other = right[places[1]] if len(places) == 2 else None
        if kind == "ex":
            left[places[0]], left[places[1]] = other, one
            return left
        if two:
            left.pop(places[0])
            right.pop(places[1])
        else:
            for place in sorted(places, reverse=True):
                left.pop(place)
        if kind == "cut":
            return left + right if other == dual(one) else None
        if kind == "tensor":
            return left + right + [("*", one, other)]
        if kind == "with":
            return left + [("&", one, other)] if left == right else None
        if kind == "con":
            return left + [one] if one == other and one[0] == "?" else None
        if kind == "prom":
            return left + [("!", one)] if all(item[0] == "?" for item in left) else None
        added = {"par": ("|", one, other), "plus1": ("+", one, tree), "plus2": ("+", tree, one), "der": ("?", one)}
        return left + [added[kind]]

    def text(self):
        return "".join(self.written(line) + "\n" for line in self.lines)

    def written(self, line):
        kind, premises, places, tree, _ = line
        numbers = [premises[0], places[0], premises[1], places[1]] if len(premises) == 2 else premises + places
        words = [kind] + [str(number) for number in numbers]
        return " ".join(words + ([form(tree)] if kind in WITH_FORMULA else []))

    def sequent(self, number):
        return ", ".join(form(one) for one in self.lines[number][4])

    def under(self, number):
        found = {number}
        for premise in self.lines[number][1]:
            found |= set(self.under(premise))
        return sorted(found)

    def open_lines(self):
        used = [premise for line in self.lines for premise in line[1]]
        return [number for number in range(len(self.lines)) if number not in used]
