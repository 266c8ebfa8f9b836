"""Questions to a design, decided by looking at one member or at two: nodes, for ever, apart, bounded, the past."""

from onemember.designs import check_design
from onemember.errors import InvalidFields, InvalidTerms, UnknownField, UnknownMode
from onemember.expressions import Expression, check_expression, check_fact
from onemember.forms import GIVEN, form_value
from onemember.kinds import is_integer, is_tuple_of
from onemember.limits import MOST_TERMS
from onemember.steps import ALONE, TOGETHER, all_moves, beginning, behind, deed_rows, fault_bits, fields_of, first_ways
from onemember.steps import is_in, leaf_bits, reached


def nodes(design):
    """The nodes of a design (point 12)."""
    check_design(design)
    found = [(mode, fields_of(design.fields, inside)) for mode, inside in reached(design, ALONE)]
    return tuple([(design.modes[mode], inside) for mode, inside in sorted(set(found))])


def way_to(design, mode, inside):
    """The first history, with x alone, to a node, or None."""
    check_design(design)
    if mode not in design.modes:
        raise UnknownMode(mode)
    check_inside(inside, design)
    for state, way in reached(design, ALONE).items():
        if design.modes[state[0]] == mode and fields_of(design.fields, state[1]) == inside:
            return way
    return None


def always(fact, design, *, mode=None):
    """Whether a fact holds for ever (point 13)."""
    return breaking(fact, design, mode=mode) is None


def breaking(fact, design, *, mode=None):
    """The first history, with x alone, behind which a fact does not hold, or None."""
    check_fact(fact)
    check_question(design, (fact.left, fact.right), mode)
    faults = fault_bits(fact.form, leaf_bits(design.fields))
    return first_with(design, ALONE, mode, lambda state: is_in(faults, state[1]))


def apart(one, other, design, *, mode=None):
    """Whether never a member is in one expression and another member in the other one (point 14)."""
    return meeting(one, other, design, mode=mode) is None


def meeting(one, other, design, *, mode=None):
    """The first history, with x and y, behind which x is in one expression and y in the other one, or None."""
    check_expression(one)
    check_expression(other)
    check_question(design, (one, other), mode)
    first, second = bits_of(one, design), bits_of(other, design)
    return first_with(design, TOGETHER, mode, lambda state: is_in(first, state[1]) and is_in(second, state[2]))


def bounded(terms, design, *, mode=None):
    """Whether there is a number that the sum of the terms never passes (point 15)."""
    return growing(terms, design, mode=mode) is None


def growing(terms, design, *, mode=None):
    """The first history, with x alone, behind which the sum of the terms is above 0, or None."""
    check_terms(terms)
    check_question(design, [expression for expression, _ in terms], mode)
    weights = [(bits_of(expression, design), number) for expression, number in terms]
    return first_with(design, ALONE, mode, lambda state: total(weights, state[1]) > 0)


def total(weights, inside):
    """The sum, for somebody in these fields alone, of pairs of bits and a number."""
    return sum([number for bits, number in weights if is_in(bits, inside)])


def been(one, other, design):
    """The first history, with x alone, behind which x is in one and was never in other, or None (point 16)."""
    check_expression(one)
    check_expression(other)
    check_question(design, (one, other), None)
    late, early = bits_of(one, design), bits_of(other, design)
    moves = all_moves(design)
    # Whoever was in the other one is no example any more: such states are left out, with all behind them.
    ways = first_ways(beginning(ALONE), deed_rows(design, ALONE), lambda state, row: outside(moves, early, state, row))
    for state, way in ways.items():
        if is_in(late, state[1]):
            return way
    return None


def outside(moves, bits, state, row):
    """The state behind a deed, or None if it is refused or x is in the form with these bits then."""
    later = behind(moves, state, row)
    return None if later is None or is_in(bits, later[1]) else later


def stays(one, design):
    """The first history, with x alone, by whose last deed x leaves one, or None (point 16)."""
    check_expression(one)
    check_question(design, (one,), None)
    bits = bits_of(one, design)
    return first_deed(design, lambda inside, later: is_in(bits, inside) and not is_in(bits, later))


def comes(one, other, design):
    """The first history, with x alone, by whose last deed x comes into one from outside other, or None (point 16)."""
    check_expression(one)
    check_expression(other)
    check_question(design, (one, other), None)
    into, start = bits_of(one, design), bits_of(other, design)
    return first_deed(
        design, lambda inside, later: is_in(into, later) and not is_in(into, inside) and not is_in(start, inside)
    )


def first_with(design, names, mode, shows):
    """The first history with these names to a state, in this mode or in any for None, that shows it, or None."""
    for state, way in reached(design, names).items():
        if mode in (None, design.modes[state[0]]) and shows(state):
            return way
    return None


def first_deed(design, shows):
    """The first history, with x alone, of whose last deed the fields of x before and behind it show it, or None."""
    moves = all_moves(design)
    rows = deed_rows(design, ALONE)
    for state, way in reached(design, ALONE).items():
        for row in rows:
            later = behind(moves, state, row)
            if later is not None and shows(state[1], later[1]):
                return (*way, row[0])
    return None


def bits_of(expression, design):
    """The number of an expression whose bits are the places of leaf_bits."""
    return form_value(expression.form, leaf_bits(design.fields))


def check_question(design, expressions, mode):
    """Refuse what is no design, names that are no fields of it, and what is neither None nor a mode of it."""
    check_design(design)
    names = []
    for expression in expressions:
        names.extend(expression.fields)
        if expression.has_given:
            names.append(GIVEN)
    for name in sorted(set(names)):
        if name not in design.fields:
            raise UnknownField(name)
    if mode is not None and mode not in design.modes:
        raise UnknownMode(mode)


def check_terms(terms):
    """Refuse what is not a tuple of one to four pairs (expression, integer)."""
    if not isinstance(terms, tuple) or not 1 <= len(terms) <= MOST_TERMS:
        raise InvalidTerms(None)
    for at, term in enumerate(terms):
        if not is_tuple_of(term, 2) or not isinstance(term[0], Expression) or not is_integer(term[1]):
            raise InvalidTerms(at)


def check_inside(inside, design):
    """Refuse what is not a tuple of fields in the order of the design."""
    if not isinstance(inside, tuple):
        raise InvalidFields(None)
    last = -1
    for at, field in enumerate(inside):
        if field not in design.fields or design.fields.index(field) <= last:
            raise InvalidFields(at)
        last = design.fields.index(field)
