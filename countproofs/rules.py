"""The twelve rules: when each fits, and the sequent that it makes.

A rule is asked with its line, as read, and the list of its premises' sequents.
"""

from countproofs.formulas import OF_COURSE, PAR, PLUS, TENSOR, WHY_NOT, WITH
from countproofs.formulas import dual_of, of_one, of_two


def without(sequent, places):
    """A sequent without its formulas at some places."""
    return [formula for place, formula in enumerate(sequent) if place not in places]


def rest_of_first(line, sequents):
    """The first premise's sequent without the line's first place."""
    return without(sequents[0], [line.places[0]])


def rest_of_second(line, sequents):
    """The second premise's sequent without the line's second place."""
    return without(sequents[1], [line.places[1]])


def rest_of_both_places(line, sequents):
    """The only premise's sequent without the line's two places."""
    return without(sequents[0], line.places)


def chosen(line, sequents):
    """The formula at the line's first place."""
    return sequents[0][line.places[0]]


def chosen_beside(line, sequents):
    """The formula at the line's second place, which lies in the last premise."""
    return sequents[-1][line.places[1]]


def joined(sign, line, sequents):
    """The formula with this sign of those at the line's two places."""
    return of_two(sign, chosen(line, sequents), chosen_beside(line, sequents))


def make_axiom(line, sequents):
    """A, the dual of A."""
    return [line.formula, dual_of(line.formula)]


def make_cut(line, sequents):
    """S without p, T without q."""
    return rest_of_first(line, sequents) + rest_of_second(line, sequents)


def make_tensor(line, sequents):
    """S without p, T without q, A tensor B."""
    return make_cut(line, sequents) + [joined(TENSOR, line, sequents)]


def make_par(line, sequents):
    """S without both, A par B."""
    return rest_of_both_places(line, sequents) + [joined(PAR, line, sequents)]


def make_with(line, sequents):
    """The list that both premises share, A with B."""
    return rest_of_first(line, sequents) + [joined(WITH, line, sequents)]


def make_plus_first(line, sequents):
    """S without p, A plus B."""
    return rest_of_first(line, sequents) + [of_two(PLUS, chosen(line, sequents), line.formula)]


def make_plus_second(line, sequents):
    """S without p, B plus A."""
    return rest_of_first(line, sequents) + [of_two(PLUS, line.formula, chosen(line, sequents))]


def make_derelict(line, sequents):
    """S without p, why not A."""
    return rest_of_first(line, sequents) + [of_one(WHY_NOT, chosen(line, sequents))]


def make_weaken(line, sequents):
    """S, why not A."""
    return sequents[0] + [of_one(WHY_NOT, line.formula)]


def make_contract(line, sequents):
    """S without both, why not A."""
    return rest_of_both_places(line, sequents) + [chosen(line, sequents)]


def make_promote(line, sequents):
    """S without p, of course A."""
    return rest_of_first(line, sequents) + [of_one(OF_COURSE, chosen(line, sequents))]


def make_exchange(line, sequents):
    """S with the formulas at p and q exchanged."""
    sequent = list(sequents[0])
    sequent[line.places[0]] = chosen_beside(line, sequents)
    sequent[line.places[1]] = chosen(line, sequents)
    return sequent


def cut_fits(line, sequents):
    """Whether the two chosen formulas are duals."""
    return dual_of(chosen(line, sequents)) == chosen_beside(line, sequents)


def with_fits(line, sequents):
    """Whether both premises have the same other formulas."""
    return rest_of_first(line, sequents) == rest_of_second(line, sequents)


def contract_fits(line, sequents):
    """Whether the two chosen formulas are the same why not."""
    first = chosen(line, sequents)
    return first[0] == WHY_NOT and first == chosen_beside(line, sequents)


def promote_fits(line, sequents):
    """Whether every other formula is a why not."""
    return all([formula[0] == WHY_NOT for formula in rest_of_first(line, sequents)])


MAKERS = {
    "ax": make_axiom,
    "cut": make_cut,
    "tensor": make_tensor,
    "par": make_par,
    "with": make_with,
    "plus1": make_plus_first,
    "plus2": make_plus_second,
    "der": make_derelict,
    "weak": make_weaken,
    "con": make_contract,
    "prom": make_promote,
    "ex": make_exchange,
}

CHECKS = {"cut": cut_fits, "with": with_fits, "con": contract_fits, "prom": promote_fits}


def rule_fits(line, sequents):
    """Whether the line's rule fits its premises' sequents."""
    if line.kind not in CHECKS:
        return True
    check = CHECKS[line.kind]
    return check(line, sequents)


def made_sequent(line, sequents):
    """The sequent that the line's rule makes from its premises' sequents."""
    maker = MAKERS[line.kind]
    return maker(line, sequents)
