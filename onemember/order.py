"""Whether two calls commute (point 19)."""

from onemember.designs import check_design
from onemember.steps import ALONE, all_moves, behind, deed_rows, reached


def commute(design, first, second):
    """Whether two calls commute."""
    return disorder(design, first, second) is None


def disorder(design, first, second):
    """The first triple (history, argument, argument), with x alone, that shows that they do not, or None."""
    check_design(design)
    first_rows = rows_of(design, first)
    second_rows = rows_of(design, second)
    moves = all_moves(design)
    for state, way in reached(design, ALONE).items():
        for one in first_rows:
            for other in second_rows:
                # None stands for a deed that is refused: both orders may have one.
                if behind_two(moves, state, one, other) != behind_two(moves, state, other, one):
                    return (way, one[0][1], other[0][1])
    return None


def rows_of(design, call):
    """The rows of the deeds of a call for x alone."""
    # Only to refuse what is no call.
    design.sort_of(call)
    return [row for row in deed_rows(design, ALONE) if row[0][0] == call]


def behind_two(moves, state, row, later_row):
    """The state behind two deeds, one after another, or None if one of them is refused."""
    between = behind(moves, state, row)
    return None if between is None else behind(moves, between, later_row)
