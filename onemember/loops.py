"""Whether a loop of a call of the sort one does the same as a call of the sort many (point 18)."""

from onemember.designs import check_design
from onemember.errors import UnknownRule, WrongSort
from onemember.shapes import MANY, ONE
from onemember.steps import TOGETHER, all_moves, behind, reached, rows_of

WHOLE = "whole"
STOP = "stop"
RULES = ("skip", "whole", "stop")

# The places of two names as a loop takes them, when the first one is the lesser one, and the other way round.
FORWARDS = (0, 1)
BACKWARDS = (1, 0)


def same_loop(design, one, many, *, rule="stop"):
    """Whether a loop of one by the rule is the same as many."""
    return loop_parting(design, one, many, rule=rule) is None


def loop_parting(design, one, many, *, rule="stop"):
    """The first pair (history, names), with x and y, behind which a loop of these names and many differ, or None."""
    check_design(design)
    check_sort(design, one, ONE)
    check_sort(design, many, MANY)
    if rule not in RULES:
        raise UnknownRule(rule)
    moves = all_moves(design)
    rows = rows_of(design, many, TOGETHER)
    # Two members are enough: one that is done before the loop stops, and one at which it does.
    for state, way in reached(design, TOGETHER).items():
        for row in rows:
            if looped(moves, design.names.index(one), state, row, FORWARDS, rule) != called(moves, state, row):
                return (way, row[0][1])
    return None


def check_sort(design, call, sort):
    """Refuse what is no call of the design, and a call of another sort."""
    if design.sort_of(call) != sort:
        raise WrongSort(call)


def called(moves, state, row):
    """Whether the deed of a row is granted, and the state behind it."""
    later = behind(moves, state, row)
    return (False, state) if later is None else (True, later)


def looped(moves, one, state, row, order, rule):
    """Whether a loop over the names that a row gives is granted, and the state behind it.

    It does the call at the place one, and takes the names in the order of these places.
    """
    move = moves[one][state[0]]
    given = row[2]
    insides = list(state[1:])
    granted = True
    for at in order:
        later = None if move is None else move[1][2 * insides[at] + 1]
        if given[at] and later is not None:
            insides[at] = later
        elif given[at] and rule == WHOLE:
            return (False, state)
        elif given[at] and rule == STOP:
            granted = False
            break
    return (granted, (state[0], *insides))
