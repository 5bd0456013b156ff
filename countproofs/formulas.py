"""Formulas, their duals, forms and bounds.

A formula is a tuple of words: its sign, then the words of the one or two formulas that it
is of. An atom is the one word of its form. So a formula is gone through by a loop, from its
end if a word is to meet the formulas that it is of, and two formulas are the same if their
words are.
"""

TURNED = "~"
TENSOR = "*"
PAR = "|"
WITH = "&"
PLUS = "+"
OF_COURSE = "!"
WHY_NOT = "?"

SIGNS_OF_TWO = ("*", "|", "&", "+")
SIGNS_OF_ONE = ("!", "?")
DUAL_SIGNS = {"*": "|", "|": "*", "&": "+", "+": "&", "!": "?", "?": "!"}

MOST_ATOMS = 60
MOST_NODES = 200
MOST_DEPTH = 40


def plain_atom(name):
    """The plain atom of a name."""
    return (name,)


def of_one(sign, formula):
    """The formula with this sign of one formula."""
    return (sign,) + formula


def of_two(sign, first, second):
    """The formula with this sign of two formulas."""
    return (sign,) + first + second


def parts_of(formula):
    """The one or two formulas that a formula with a sign is of."""
    if formula[0] in SIGNS_OF_ONE:
        return [formula[1:]]
    end = end_of_formula(formula, 1)
    return [formula[1:end], formula[end:]]


def end_of_formula(words, start):
    """The place behind the formula that begins at a place."""
    wanted = 1
    place = start
    while wanted > 0:
        if words[place] in SIGNS_OF_TWO:
            wanted += 1
        elif words[place] not in SIGNS_OF_ONE:
            wanted -= 1
        place += 1
    return place


def dual_of(formula):
    """The dual of a formula."""
    return tuple([dual_word(word) for word in formula])


def dual_word(word):
    """The sign or the atom that stands in the dual in the place of this one."""
    if word in DUAL_SIGNS:
        return DUAL_SIGNS[word]
    return name_of(word) if is_turned(word) else TURNED + word


def is_turned(atom):
    """Whether an atom is turned."""
    return atom[0] == TURNED


def name_of(atom):
    """The name of an atom."""
    return atom[1:] if is_turned(atom) else atom


def atoms_of(formula):
    """The atoms that stand in a formula, each as often as it stands there."""
    return [word for word in formula if word not in DUAL_SIGNS]


def form_of(formula):
    """The form of a formula."""
    # Each formula that is met is kept with its first word, which tells whether it needs brackets.
    met = []
    for word in reversed(formula):
        if word in SIGNS_OF_TWO:
            first = met.pop()
            form = bracketed(first, "") + word + bracketed(met.pop(), word)
        elif word in SIGNS_OF_ONE:
            form = word + bracketed(met.pop(), "")
        else:
            form = word
        met.append((word, form))
    return met[0][1]


def bracketed(pair, free_sign):
    """The form of a pair of first word and form, in ( ) if the word is a sign of two other than the free one."""
    if pair[0] in SIGNS_OF_TWO and pair[0] != free_sign:
        return "(" + pair[1] + ")"
    return pair[1]


def depth_of(formula):
    """The depth of a formula."""
    met = []
    for word in reversed(formula):
        if word in SIGNS_OF_TWO:
            first = met.pop()
            met.append(1 + max(first, met.pop()))
        elif word in SIGNS_OF_ONE:
            met.append(1 + met.pop())
        else:
            met.append(1)
    return met[0]


def is_in_bounds(formula):
    """Whether a formula is in bounds."""
    if len(formula) > MOST_NODES or len(atoms_of(formula)) > MOST_ATOMS:
        return False
    return depth_of(formula) <= MOST_DEPTH
