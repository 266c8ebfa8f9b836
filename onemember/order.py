"""Whether two calls commute (point 19)."""

from onemember.designs import check_design
from onemember.errors import UnknownCall
from onemember.steps import ALONE, all_moves, behind, reached, rows_of


def commute(design, first, second):
    """Whether two calls commute."""
    return disorder(design, first, second) is None


def disorder(design, first, second):
    """The first triple (history, argument, argument), with x alone, that shows that they do not, or None."""
    check_design(design)
    check_call(design, first)
    check_call(design, second)
    moves = all_moves(design)
    pairs = [(one, other) for one in rows_of(design, first, ALONE) for other in rows_of(design, second, ALONE)]
    for state, way in reached(design, ALONE).items():
        for one, other in pairs:
            if is_disorder(moves, state, one, other):
                return (way, one[0][1], other[0][1])
    return None


def check_call(design, name):
    """Refuse what is no call of the design."""
    if name not in design:
        raise UnknownCall(name)


def is_disorder(moves, state, one, other):
    """Whether the deeds of two rows do not commute in a state."""
    # None stands for a deed that is refused: both orders may have one.
    return behind_two(moves, state, one, other) != behind_two(moves, state, other, one)


def behind_two(moves, state, row, later_row):
    """The state behind two deeds, one after another, or None if one of them is refused."""
    between = behind(moves, state, row)
    return None if between is None else behind(moves, between, later_row)
