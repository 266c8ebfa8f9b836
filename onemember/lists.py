"""Lists of the checker: which states somebody comes to, or two members, or one member of two designs.

Rows of such a list are tuples (mode, inside, ..), which become states as in the file steps.
"""

from onemember.alike import AT_FIRST, Both
from onemember.kinds import is_tuple_of
from onemember.steps import ALONE, all_moves, beginning, behind, deed_rows, fields_of, first_ways, is_closed, is_in

# The state with a flag at the beginning, where nobody has been anywhere.
PAST_AT_FIRST = (0, 0, False)


def read_states(paper, modes, fields):
    """A dict of the states of a tuple of different rows, or None; fields has a tuple of fields for each inside."""
    if not isinstance(paper, tuple):
        return None
    states = {}
    for row in paper:
        state = read_state(row, modes, fields)
        if state is None or state in states:
            return None
        states[state] = True
    return states


def read_state(row, modes, fields):
    """The state of a row, or None."""
    if not is_tuple_of(row, len(fields) + 1) or row[0] not in modes:
        return None
    numbers = [read_inside(inside, names) for inside, names in zip(row[1:], fields)]
    return None if None in numbers else (modes.index(row[0]), *numbers)


def read_inside(inside, fields):
    """The number of a tuple of different fields in their order, or None."""
    if not isinstance(inside, tuple):
        return None
    number = 0
    for field in inside:
        # The bit of a field that comes behind all others is greater than the number of those.
        if field not in fields or (1 << fields.index(field)) <= number:
            return None
        number += 1 << fields.index(field)
    return number


def row_of(state, modes, fields):
    """The row of a state."""
    insides = [fields_of(names, number) for names, number in zip(fields, state[1:])]
    return (modes[state[0]], *insides)


def read_list(design, paper, names):
    """The dict of the states of a list, with these one or two names looked at, or None if it is none."""
    states = read_states(paper, design.modes, (design.fields,) * len(names))
    if states is None or beginning(names) not in states:
        return None
    moves = all_moves(design)
    closed = is_closed(states, deed_rows(design, names), lambda state, row: behind(moves, state, row))
    return states if closed else None


def list_of(design, names, states):
    """The list with these states of one or two names."""
    return tuple([row_of(state, design.modes, (design.fields,) * len(names)) for state in states])


def read_past_list(design, bits, paper):
    """The dict of the states (mode, inside, flag) of a list that tells who has been where the bits are, or None."""
    if not isinstance(paper, tuple):
        return None
    states = {}
    for row in paper:
        state = read_past_state(row, design)
        if state is None or state in states:
            return None
        states[state] = True
    moves = all_moves(design)
    closed = is_closed(states, deed_rows(design, ALONE), lambda state, row: past_behind(moves, bits, state, row))
    return states if PAST_AT_FIRST in states and closed else None


def read_past_state(row, design):
    """The state (mode, inside, flag) of a row, or None."""
    if not is_tuple_of(row, 3) or not isinstance(row[2], bool):
        return None
    state = read_state(row[:2], design.modes, (design.fields,))
    return None if state is None else (*state, row[2])


def past_list(design, bits):
    """The list with flags that tells who has been where the bits are."""
    moves = all_moves(design)
    rows = deed_rows(design, ALONE)
    states = first_ways(PAST_AT_FIRST, rows, lambda state, row: past_behind(moves, bits, state, row))
    return tuple([(*row_of(state[:2], design.modes, (design.fields,)), state[2]) for state in states])


def past_behind(moves, bits, state, row):
    """The state with its flag behind the deed of a row, or None if it is refused."""
    later = behind(moves, state[:2], row)
    return None if later is None else (*later, state[2] or is_in(bits, later[1]))


def read_joint_list(first, second, paper):
    """The dict of the pairs, as told by Both, of a joint list of two designs, or None."""
    states = read_states(paper, first.modes, (first.fields, second.fields))
    if states is None:
        return None
    # The mode is that of both, so a deed behind which the modes differ leads to a pair that is not there.
    pairs = {(mode, inside, mode, other_inside): True for mode, inside, other_inside in states}
    return pairs if AT_FIRST in pairs and Both(first, second).has_all_behind(pairs) else None


def joint_list(first, second):
    """The joint list of two designs of which the modes behind all histories that both grant are the same."""
    pairs = Both(first, second).ways(AT_FIRST)
    fields = (first.fields, second.fields)
    return tuple([row_of((mode, inside, other), first.modes, fields) for mode, inside, _, other in pairs])
