"""The claims that are proved by lists: what a list shows for one member, or for two, holds for all."""

from onemember.alike import Both, are_comparable, is_fallen, is_parted
from onemember.deciding import bits_of, total
from onemember.lists import read_joint_list, read_list, read_past_list
from onemember.loops import BACKWARDS, FORWARDS, called, looped
from onemember.order import is_disorder
from onemember.steps import ALONE, TOGETHER, all_moves, behind, deed_rows, fault_bits, is_in, leaf_bits, rows_of


def proves_always(design, parts, paper):
    """Whether a fact holds in a list."""
    fact, modes = parts
    faults = fault_bits(fact.form, leaf_bits(design.fields))
    return holds_in_list(design, modes, paper, lambda inside: not is_in(faults, inside))


def proves_bounded(design, parts, paper):
    """Whether the sum of terms is nowhere above 0 in a list."""
    terms, modes = parts
    weights = [(bits_of(expression, design), number) for expression, number in terms]
    return holds_in_list(design, modes, paper, lambda inside: total(weights, inside) <= 0)


def proves_derived(design, parts, paper):
    """Whether a field is an expression of the other fields in a list."""
    field, expression = parts
    if field in expression.fields:
        return False
    parted = leaf_bits(design.fields)[field] ^ bits_of(expression, design)
    return holds_in_list(design, list(range(len(design.modes))), paper, lambda inside: not is_in(parted, inside))


def holds_in_list(design, modes, paper, is_kept):
    """Whether what is told of fields holds in all entries of a list with one of the modes."""
    states = read_list(design, paper, ALONE)
    return states is not None and all([is_kept(inside) for mode, inside in states if mode in modes])


def proves_apart(design, parts, paper):
    """Whether in a list of two never one member is in one expression and the other member in the other one."""
    one, other, modes = parts
    states = read_list(design, paper, TOGETHER)
    if states is None:
        return False
    first, second = bits_of(one, design), bits_of(other, design)
    pairs = [pair for mode, *pair in states if mode in modes]
    return not any([
        (is_in(first, here) and is_in(second, there)) or (is_in(first, there) and is_in(second, here))
        for here, there in pairs
    ])


def proves_been(design, parts, paper):
    """Whether in a list with flags nobody without a flag is in the first expression."""
    late, early = [bits_of(expression, design) for expression in parts]
    states = read_past_list(design, early, paper)
    return states is not None and not any([is_in(late, inside) and not flag for _, inside, flag in states])


def proves_stays(design, parts, paper):
    """Whether in a list no deed leads out of an expression."""
    bits = bits_of(parts[0], design)
    return holds_for_deeds(design, paper, lambda before, later: is_in(bits, later) or not is_in(bits, before))


def proves_comes(design, parts, paper):
    """Whether in a list no deed leads into the first expression from outside both."""
    into, start = [bits_of(expression, design) for expression in parts]
    known = into | start
    return holds_for_deeds(design, paper, lambda before, later: is_in(known, before) or not is_in(into, later))


def holds_for_deeds(design, paper, is_kept):
    """Whether what is told of the fields before and behind a deed holds for all entries of a list and all deeds."""
    states = read_list(design, paper, ALONE)
    if states is None:
        return False
    moves = all_moves(design)
    rows = deed_rows(design, ALONE)
    steps = [(state[1], behind(moves, state, row)) for state in states for row in rows]
    return all([later is None or is_kept(inside, later[1]) for inside, later in steps])


def proves_alike(design, parts, paper):
    """Whether a joint list shows that two designs are alike."""
    return is_without_sign(design, parts[0], paper, is_parted)


def proves_standing_in(design, parts, paper):
    """Whether a joint list shows that the first design stands in for the second one."""
    return is_without_sign(design, parts[0], paper, is_fallen)


def is_without_sign(first, second, paper, differs):
    """Whether nothing in a joint list of two designs parts them, where differs is is_parted or is_fallen."""
    pairs = read_joint_list(first, second, paper) if are_comparable(first, second) else None
    if pairs is None:
        return False
    both = Both(first, second)
    return all([both.sign_at(pair, differs) is None for pair in pairs])


def proves_same_loop(design, parts, paper):
    """Whether in a list of two a loop does what the call does, for all sets of the two and in both orders."""
    one, many, rule = parts
    states = read_list(design, paper, TOGETHER)
    if states is None:
        return False
    moves = all_moves(design)
    place = design.names.index(one)
    rows = rows_of(design, many, TOGETHER)
    return all([
        looped(moves, place, state, row, order, rule) == called(moves, state, row)
        for state in states for row in rows for order in (FORWARDS, BACKWARDS)
    ])


def proves_commuting(design, parts, paper):
    """Whether in a list the deeds of two calls commute."""
    first, second = parts
    states = read_list(design, paper, ALONE)
    if states is None:
        return False
    moves = all_moves(design)
    pairs = [(one, other) for one in rows_of(design, first, ALONE) for other in rows_of(design, second, ALONE)]
    return not any([is_disorder(moves, state, one, other) for state in states for one, other in pairs])


PROOFS = {
    "always": proves_always,
    "apart": proves_apart,
    "bounded": proves_bounded,
    "been": proves_been,
    "stays": proves_stays,
    "comes": proves_comes,
    "alike": proves_alike,
    "stands in": proves_standing_in,
    "same loop": proves_same_loop,
    "commute": proves_commuting,
    "derived": proves_derived,
}


def is_proved(word, design, parts, paper):
    """Whether a claim with this word is proved by a certificate."""
    if word not in PROOFS:
        return False
    proves = PROOFS[word]
    return proves(design, parts, paper)
