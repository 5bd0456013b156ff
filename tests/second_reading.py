"""The document's words a second time, by recursion over tuples, to hold the program against."""

import re

TOKEN = re.compile(r" |[a-z0-9]+|-o|[~*|&+!?()]")
DUAL = {"*": "|", "|": "*", "&": "+", "+": "&", "!": "?", "?": "!"}
KINDS = "ax cut tensor par with plus1 plus2 der weak con prom ex".split()
NUMBERS = {"cut": 4, "tensor": 4, "with": 4, "par": 3, "con": 3, "ex": 3, "der": 2, "prom": 2,
           "ax": 0, "weak": 1, "plus1": 2, "plus2": 2}
WITH_FORMULA = ("ax", "weak", "plus1", "plus2")


class NoFormula(Exception):
    pass


def dual(tree):
    if tree[0] == "atom":
        return ("atom", tree[1], not tree[2])
    return (DUAL[tree[0]],) + tuple(dual(part) for part in tree[1:])


def form(tree):
    if tree[0] == "atom":
        return "~" * tree[2] + tree[1]
    if len(tree) == 2:
        inner = form(tree[1])
        return tree[0] + (f"({inner})" if tree[1][0] in set("*|&+") else inner)
    first, second = form(tree[1]), form(tree[2])
    if tree[1][0] in set("*|&+"):
        first = f"({first})"
    if tree[2][0] in set("*|&+") - {tree[0]}:
        second = f"({second})"
    return first + tree[0] + second


def all_nodes(tree):
    found = [tree]
    if tree[0] != "atom":
        for part in tree[1:]:
            found += all_nodes(part)
    return found


def depth(tree):
    return 1 if tree[0] == "atom" else 1 + max(depth(part) for part in tree[1:])


def in_bounds(tree):
    nodes = all_nodes(tree)
    return len(nodes) <= 200 and sum(node[0] == "atom" for node in nodes) <= 60 and depth(tree) <= 40


def tokens_of(text):
    tokens = []
    place = 0
    while place < len(text):
        match = TOKEN.match(text, place)
        if not match:
            raise NoFormula
        place = match.end()
        token = match.group()
        if token[0].isalnum() and not (token[0].isalpha() and len(token) <= 12):
            raise NoFormula
        if token != " ":
            tokens.append(token)
    return tokens + ["."]


def formula_at(tokens, place, opened):
    first, place = chain_at(tokens, place, opened, None)
    if tokens[place] == "-o":
        second, place = formula_at(tokens, place + 1, opened + 1)
        return ("|", dual(first), second), place
    return first, place


def chain_at(tokens, place, opened, sign):
    first, place = part_at(tokens, place, opened)
    if tokens[place] in ("*", "|", "&", "+"):
        if sign not in (None, tokens[place]):
            raise NoFormula
        sign = tokens[place]
        second, place = chain_at(tokens, place + 1, opened + 1, sign)
        return (sign, first, second), place
    return first, place


def part_at(tokens, place, opened):
    token = tokens[place]
    if opened + (token in ("(", "~", "!", "?")) > 100:
        raise NoFormula
    if token == "~":
        inner, place = part_at(tokens, place + 1, opened + 1)
        return dual(inner), place
    if token in ("!", "?"):
        inner, place = part_at(tokens, place + 1, opened + 1)
        return (token, inner), place
    if token == "(":
        inner, place = formula_at(tokens, place + 1, opened + 1)
        if tokens[place] != ")":
            raise NoFormula
        return inner, place + 1
    if not token[0].isalpha():
        raise NoFormula
    return ("atom", token, False), place + 1


def read(text):
    """The tree of a text that is a formula in bounds, or None."""
    if len(text) > 2000:
        return None
    try:
        tokens = tokens_of(text)
        tree, place = formula_at(tokens, 0, 0)
    except NoFormula:
        return None
    return tree if place == len(tokens) - 1 and in_bounds(tree) else None


def replaced(tree, name, formula):
    """The tree with a formula in the place of a name's plain atoms, and its dual in that of the turned ones."""
    if tree[0] != "atom":
        return (tree[0],) + tuple(replaced(part, name, formula) for part in tree[1:])
    if tree[1] != name:
        return tree
    return dual(formula) if tree[2] else formula


def is_name(text):
    return re.fullmatch("[a-z][a-z0-9]{0,11}", text) is not None


def spread_out(tree, texts):
    """Put the lines of an axiom's tree behind some texts; the last one's number."""
    def put(*words):
        texts.append(" ".join(str(word) for word in words))
        return len(texts) - 1

    if tree[0] == "atom":
        return put("ax", form(tree))
    x = spread_out(tree[1], texts)
    if tree[0] == "!":
        return put("ex", put("prom", put("der", x, 1), 0), 0, 1)
    if tree[0] == "?":
        return put("prom", put("der", x, 0), 0)
    if tree[0] == "&":
        x = put("plus1", x, 1, form(dual(tree[2])))
        y = put("plus2", spread_out(tree[2], texts), 1, form(dual(tree[1])))
        return put("ex", put("with", x, 0, y, 0), 0, 1)
    if tree[0] == "+":
        x = put("plus1", x, 0, form(tree[2]))
        y = put("plus2", spread_out(tree[2], texts), 0, form(tree[1]))
        return put("with", x, 0, y, 0)
    y = spread_out(tree[2], texts)
    if tree[0] == "*":
        return put("par", put("tensor", x, 0, y, 0), 0, 1)
    return put("ex", put("par", put("tensor", x, 1, y, 1), 0, 1), 0, 1)


class SecondProof:
    """A list of (kind, premises, places, tree, sequent)."""

    def __init__(self):
        self.lines = []

    def add(self, text):
        """The reason of the text's fault; 0 if it is the next line now."""
        line = self.cut(text)
        if line is None:
            return 1
        kind, premises, places, tree = line
        if not all(premise < len(self.lines) for premise in premises):
            return 2
        used = [premise for other in self.lines for premise in other[1]]
        if set(used) & set(premises) or len(set(premises)) < len(premises):
            return 3
        sources = [self.lines[premise][4] for premise in premises]
        if len(sources) == 1:
            if any(place >= len(sources[0]) for place in places) or len(set(places)) < len(places):
                return 4
        elif any(place >= len(source) for place, source in zip(places, sources)):
            return 4
        sequent = self.make(kind, sources, places, tree)
        if sequent is None:
            return 5
        if len(sequent) > 20 or not all(in_bounds(one) for one in sequent):
            return 6
        if len(self.lines) == 200:
            return 7
        self.lines.append((kind, premises, places, tree, sequent))
        return 0

    def cut(self, text):
        match = re.match(r"([a-z]+[12]?)((?: (?:0|[1-9][0-9]*))*)", text)
        if not match or match.group(1) not in KINDS:
            return None
        kind = match.group(1)
        pattern = kind + r" (0|[1-9][0-9]*)" * NUMBERS[kind] + (r" (.*)" if kind in WITH_FORMULA else "")
        match = re.fullmatch(pattern, text, re.DOTALL)
        if not match:
            return None
        groups = list(match.groups())
        tree = read(groups.pop()) if kind in WITH_FORMULA else ()
        if tree is None:
            return None
        numbers = [int(group) for group in groups]
        if len(numbers) == 4:
            return kind, numbers[0::2], numbers[1::2], tree
        return kind, numbers[:1], numbers[1:], tree

    def make(self, kind, sources, places, tree):
        if kind == "ax":
            return [tree, dual(tree)]
        if kind == "weak":
            return sources[0] + [("?", tree)]
        two = len(sources) == 2
        left = list(sources[0])
        right = list(sources[1]) if two else left
        one = left[places[0]]
        other = right[places[1]] if len(places) == 2 else None
        if kind == "ex":
            left[places[0]], left[places[1]] = other, one
            return left
        if two:
            left.pop(places[0])
            right.pop(places[1])
        else:
            for place in sorted(places, reverse=True):
                left.pop(place)
        if kind == "cut":
            return left + right if other == dual(one) else None
        if kind == "tensor":
            return left + right + [("*", one, other)]
        if kind == "with":
            return left + [("&", one, other)] if left == right else None
        if kind == "con":
            return left + [one] if one == other and one[0] == "?" else None
        if kind == "prom":
            return left + [("!", one)] if all(item[0] == "?" for item in left) else None
        added = {"par": ("|", one, other), "plus1": ("+", one, tree), "plus2": ("+", tree, one), "der": ("?", one)}
        return left + [added[kind]]

    def text(self):
        return "".join(self.written(line) + "\n" for line in self.lines)

    def written(self, line):
        kind, premises, places, tree, _ = line
        numbers = [premises[0], places[0], premises[1], places[1]] if len(premises) == 2 else premises + places
        words = [kind] + [str(number) for number in numbers]
        return " ".join(words + ([form(tree)] if kind in WITH_FORMULA else []))

    def sequent(self, number):
        return ", ".join(form(one) for one in self.lines[number][4])

    def under(self, number):
        found = {number}
        for premise in self.lines[number][1]:
            found |= set(self.under(premise))
        return sorted(found)

    def open_lines(self):
        used = [premise for line in self.lines for premise in line[1]]
        return [number for number in range(len(self.lines)) if number not in used]

    def facts(self, number):
        below = [self.lines[one][0] for one in self.under(number)]
        return [self.height(number)] + [below.count(kind) for kind in KINDS]

    def height(self, number):
        return 1 + max([self.height(premise) for premise in self.lines[number][1]], default=0)

    def find(self, text):
        """The lines with the sequent of a text, or None."""
        trees = [read(piece) for piece in text.split(",")] if text.strip(" ") else []
        if None in trees or len(trees) > 20:
            return None
        return [number for number, line in enumerate(self.lines) if line[4] == trees]

    def part(self, number):
        """A proof of the lines under a line, made anew from their texts."""
        below = self.under(number)
        texts = []
        for old in below:
            kind, premises, places, tree, sequent = self.lines[old]
            texts.append(self.written((kind, [below.index(premise) for premise in premises], places, tree, sequent)))
        return self.made(texts)

    def made(self, texts):
        other = SecondProof()
        for text in texts:
            assert other.add(text) == 0, text
        return other

    def fill(self, name, formula):
        """Whether all stays in bounds; if so, the atoms are replaced."""
        lines = []
        for kind, premises, places, tree, sequent in self.lines:
            grown = [replaced(one, name, formula) for one in sequent]
            tree = replaced(tree, name, formula) if tree else tree
            if not all(in_bounds(one) for one in grown + ([tree] if tree else [])):
                return False
            lines.append((kind, premises, places, tree, grown))
        self.lines = lines
        return True

    def spread(self):
        """Whether there are few enough lines; if so, the axioms are spread out."""
        texts, numbers = [], []
        for kind, premises, places, tree, sequent in self.lines:
            if kind == "ax":
                numbers.append(spread_out(tree, texts))
            else:
                texts.append(self.written((kind, [numbers[premise] for premise in premises], places, tree, sequent)))
                numbers.append(len(texts) - 1)
        if len(texts) > 200:
            return False
        self.lines = self.made(texts).lines
        return True

    def balance(self, number):
        nodes = [node for tree in self.lines[number][4] for node in all_nodes(tree) if node[0] == "atom"]
        found = []
        for name in sorted({node[1].encode() for node in nodes}):
            sides = [node[2] for node in nodes if node[1].encode() == name]
            found += [len(name)] + list(name) + [sides.count(False), sides.count(True)]
        return [len({node[1] for node in nodes})] + found


def read_proof(text):
    """The first faulty line's number plus 1, the reason and None; or two zeros and the proof."""
    found = SecondProof()
    for number, line in enumerate(re.findall(r"[^\n]*\n|[^\n]+", text)):
        reason = found.add(line.removesuffix("\n"))
        if reason:
            return number + 1, reason, None
    return 0, 0, found
