"""Whether a loop of a call of the sort one does the same as a call of the sort many (point 18)."""

from onemember.designs import check_design
from onemember.errors import UnknownRule, WrongSort
from onemember.shapes import MANY, ONE
from onemember.steps import TOGETHER, all_moves, behind, deed_rows, reached

WHOLE = "whole"
STOP = "stop"
RULES = ("skip", "whole", "stop")


def same_loop(design, one, many, *, rule="stop"):
    """Whether a loop of one by the rule is the same as many."""
    return loop_parting(design, one, many, rule=rule) is None


def loop_parting(design, one, many, *, rule="stop"):
    """The first pair (history, names), with x and y, behind which a loop of these names and many differ, or None."""
    check_design(design)
    check_sort(design, one, ONE)
    check_sort(design, many, MANY)
    if rule not in RULES:
        raise UnknownRule(rule)
    moves = all_moves(design)
    move_one = moves[design.names.index(one)]
    rows = [row for row in deed_rows(design, TOGETHER) if row[0][0] == many]
    # Two members are enough: one that is done before the loop stops, and one at which it does.
    for state, way in reached(design, TOGETHER).items():
        for row in rows:
            later = behind(moves, state, row)
            due = (False, state) if later is None else (True, later)
            if looped(move_one[state[0]], state, row[2], rule) != due:
                return (way, row[0][1])
    return None


def check_sort(design, call, sort):
    """Refuse what is no call of the design, and a call of another sort."""
    if design.sort_of(call) != sort:
        raise WrongSort(call)


def looped(move, state, given, rule):
    """Whether a loop over the names that are given is granted, and the state behind it.

    The move is what the call does in the mode of the state, or None.
    """
    insides = list(state[1:])
    granted = True
    for at, one in enumerate(given):
        later = None if move is None else move[1][2 * insides[at] + 1]
        if one and later is not None:
            insides[at] = later
        elif one and rule == WHOLE:
            return (False, state)
        elif one and rule == STOP:
            granted = False
            break
    return (granted, (state[0], *insides))
