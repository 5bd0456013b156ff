"""Sequents: short lists of formulas in bounds."""

from countproofs.formulas import atoms_of, form_of, is_in_bounds, is_turned, name_of
from countproofs.reading import read_bounded

MOST_FORMULAS = 20


def is_sequent(formulas):
    """Whether a list of formulas is short enough and all of them are in bounds."""
    return len(formulas) <= MOST_FORMULAS and all([is_in_bounds(formula) for formula in formulas])


def sequent_form(sequent):
    """The form of a sequent."""
    return ", ".join([form_of(formula) for formula in sequent])


def read_sequent(text):
    """The sequent that a text is, or None."""
    if text.strip(" ") == "":
        return []
    pieces = text.split(",")
    if len(pieces) > MOST_FORMULAS:
        return None
    formulas = [read_bounded(piece) for piece in pieces]
    if any([formula is None for formula in formulas]):
        return None
    return formulas


def balance_of(sequent):
    """A dict from each name in a sequent to how often it stands plain and how often turned."""
    counts = {}
    for formula in sequent:
        for atom in atoms_of(formula):
            pair = counts.setdefault(name_of(atom), [0, 0])
            pair[1 if is_turned(atom) else 0] += 1
    return counts
