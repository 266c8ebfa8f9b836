"""What deeds do to members looked at alone: the fields of a member are the bits of a number (points 11 and 12).

A state is a tuple: the place of the mode, and for each name that is looked at the number of its fields.
"""

from onemember.forms import GIVEN, NONE, form_value
from onemember.names import choices
from onemember.shapes import MANY, ONE

# The members of the histories that are told.
ALONE = ("x",)
TOGETHER = ("x", "y")


def leaf_bits(fields):
    """For each leaf of a form a number whose bits are places: twice the number of the fields, and 1 if given."""
    places = range(2 << len(fields))
    table = {NONE: 0, GIVEN: sum([1 << place for place in places if place & 1])}
    for at, field in enumerate(fields):
        table[field] = sum([1 << place for place in places if (place >> (at + 1)) & 1])
    return table


def is_in(bits, inside):
    """Whether somebody in just the fields of a number, who is not given, is in the form with these bits."""
    return bool((bits >> (2 * inside)) & 1)


def fields_of(fields, inside):
    """The tuple of the fields of a number, in the order of the design."""
    return tuple([field for at, field in enumerate(fields) if (inside >> at) & 1])


def all_moves(design):
    """For each call, for each mode: None, or what its case does, as told by case_moves."""
    table = leaf_bits(design.fields)
    return [
        [case_moves(design, design.case_of(name, mode), table) for mode in design.modes]
        for name in design.names
    ]


def case_moves(design, case, table):
    """The place of the mode after, and for each place of leaf_bits the number behind it, or None if refused."""
    if case is None:
        return None
    _, facts, updates, after = case
    faults = 0
    for left, right in facts:
        bits = form_value(left, table)
        faults = faults | (bits ^ (bits & form_value(right, table)))
    updated = dict(updates)
    # A field without an update is its own form.
    later = [form_value(updated.get(field, field), table) for field in design.fields]
    numbers = []
    for place in range(2 << len(later)):
        number = sum([((form >> place) & 1) << at for at, form in enumerate(later)])
        numbers.append(None if (faults >> place) & 1 else number)
    return (design.modes.index(after), numbers)


def arguments(sort, names):
    """All arguments of a call of this sort with these ascending names, in Python's order."""
    if sort == ONE:
        return list(names)
    return choices(names) if sort == MANY else [None]


def is_given(sort, argument, name):
    """1 or 0, whether a name is given by an argument, or None if a deed of the sort one is not for it."""
    if sort == ONE:
        return 1 if name == argument else None
    return 1 if sort == MANY and name in argument else 0


def deed_rows(design, names):
    """All deeds with these ascending names, in the order of point 11, as rows.

    A row is a triple: the deed, the place of its call, and for each name what is_given tells.
    """
    rows = []
    for place, (call, sort, _) in enumerate(design.calls):
        for argument in arguments(sort, names):
            given = [is_given(sort, argument, name) for name in names]
            rows.append(((call, argument), place, given))
    return rows


def beginning(names):
    """The state at the beginning, with these names looked at."""
    return (0,) * (len(names) + 1)


def behind(moves, state, row):
    """The state behind the deed of a row, or None if it is refused."""
    _, place, given = row
    move = moves[place][state[0]]
    if move is None:
        return None
    after, numbers = move
    later = [inside if one is None else numbers[2 * inside + one] for inside, one in zip(state[1:], given)]
    return None if None in later else (after, *later)


def first_ways(start, rows, step):
    """For each state that is reached, in the order of point 11, the first history to it.

    The step gives the state behind the deed of a row, or None.
    """
    ways = {start: ()}
    states = [start]
    at = 0
    while at < len(states):
        state = states[at]
        for row in rows:
            later = step(state, row)
            if later is not None and later not in ways:
                ways[later] = (*ways[state], row[0])
                states.append(later)
        at += 1
    return ways


def reached(design, names):
    """For each state that these names reach in a keeper, the first history to it."""
    moves = all_moves(design)
    return first_ways(beginning(names), deed_rows(design, names), lambda state, row: behind(moves, state, row))
