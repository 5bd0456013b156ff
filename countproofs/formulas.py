"""Formulas, their duals, forms and bounds."""

PLAIN = ""
TURNED = "~"
TENSOR = "*"
PAR = "|"
WITH = "&"
PLUS = "+"
OF_COURSE = "!"
WHY_NOT = "?"

SIGNS_OF_TWO = ("*", "|", "&", "+")
SIGNS_OF_ONE = ("!", "?")
DUAL_SIGNS = {"*": "|", "|": "*", "&": "+", "+": "&", "!": "?", "?": "!"}

MOST_ATOMS = 60
MOST_NODES = 200
MOST_DEPTH = 40


class Formula:
    """A formula that is not changed once it is made.

    Its form, its sizes and its dual are made with it, from those of its parts, so that
    no later question has to go down into a nest. Two formulas are the same if their
    forms are.
    """

    def __init__(self, sign, parts, form):
        self.sign = sign
        self.parts = parts
        self.form = form
        self.atoms = sum([part.atoms for part in parts]) if parts else 1
        self.nodes = 1 + sum([part.nodes for part in parts])
        self.depth = 1 + max([part.depth for part in parts], default=0)
        self.dual = None


def paired(formula, dual):
    """The first of two formulas, after each has been made the other's dual."""
    formula.dual = dual
    dual.dual = formula
    return formula


def plain_atom(name):
    """The plain atom of a name."""
    return paired(Formula(PLAIN, (), name), Formula(TURNED, (), TURNED + name))


def compound(sign, parts):
    """The formula with this sign of one or two formulas."""
    duals = [part.dual for part in parts]
    return paired(half(sign, parts), half(DUAL_SIGNS[sign], duals))


def half(sign, parts):
    """A formula of others that has no dual yet."""
    if sign in SIGNS_OF_ONE:
        return Formula(sign, tuple(parts), sign + bracketed(parts[0], PLAIN))
    form = bracketed(parts[0], PLAIN) + sign + bracketed(parts[1], sign)
    return Formula(sign, tuple(parts), form)


def bracketed(formula, free_sign):
    """The form, in ( ) if the formula is one of two whose sign is not the free one."""
    if formula.sign in SIGNS_OF_TWO and formula.sign != free_sign:
        return "(" + formula.form + ")"
    return formula.form


def is_in_bounds(formula):
    """Whether a formula is in bounds."""
    return formula.atoms <= MOST_ATOMS and formula.nodes <= MOST_NODES and formula.depth <= MOST_DEPTH


def forms_of(sequent):
    """The forms of a sequent's formulas, in order."""
    return [formula.form for formula in sequent]
