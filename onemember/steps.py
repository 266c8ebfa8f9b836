"""What deeds do to members looked at alone: the fields of a member are the bits of a number (points 11 and 12).

A state is a tuple: the place of the mode, and for each name that is looked at the number of its fields.
"""

from onemember.forms import GIVEN, NONE, form_value
from onemember.names import choices
from onemember.shapes import MANY, ONE

# The members of the histories that are told.
ALONE = ("x",)
TOGETHER = ("x", "y")

# For each sort: whether somebody for whom the facts of a deed are asked can be not given, and given.
GIVENS = {"one": (1,), "many": (0, 1), "none": (0,)}


def leaf_bits(fields):
    """For each leaf of a form a number whose bits are places: twice the number of the fields, and 1 if given."""
    places = range(2 << len(fields))
    table = {NONE: 0, GIVEN: sum([1 << place for place in places if place & 1])}
    for at, field in enumerate(fields):
        table[field] = sum([1 << place for place in places if (place >> (at + 1)) & 1])
    return table


def is_at(bits, place):
    """Whether somebody at a place is in the form with these bits."""
    return bool((bits >> place) & 1)


def is_in(bits, inside):
    """Whether somebody in just the fields of a number, who is not given, is in the form with these bits."""
    return is_at(bits, 2 * inside)


def fault_bits(fact, table):
    """The bits of the places at which somebody breaks a fact, told by its two forms."""
    left, right = fact
    bits = form_value(left, table)
    return bits ^ (bits & form_value(right, table))


def fields_of(fields, inside):
    """The tuple of the fields of a number, in the order of the design."""
    return tuple([field for at, field in enumerate(fields) if (inside >> at) & 1])


def number_of(fields, inside):
    """The number of a tuple of fields."""
    return sum([1 << fields.index(field) for field in inside])


def places_of(sort, insides):
    """The places of leaf_bits at which deeds of a sort can find somebody in the fields of one of these numbers."""
    return [2 * inside + given for inside in insides for given in GIVENS[sort]]


def all_moves(design):
    """For each call, for each mode: None, or what its case does, as told by case_moves."""
    table = leaf_bits(design.fields)
    return [
        [case_moves(design, design.case_of(name, mode), table) for mode in design.modes]
        for name in design.names
    ]


def case_moves(design, case, table):
    """The place of the mode after, and for each place of leaf_bits the number behind it, or None if refused."""
    if case is None:
        return None
    _, facts, updates, after = case
    faults = 0
    for fact in facts:
        faults = faults | fault_bits(fact, table)
    updated = dict(updates)
    # A field without an update is its own form.
    later = [form_value(updated.get(field, field), table) for field in design.fields]
    numbers = []
    for place in range(2 << len(later)):
        number = sum([((form >> place) & 1) << at for at, form in enumerate(later)])
        numbers.append(None if is_at(faults, place) else number)
    return (design.modes.index(after), numbers)


def arguments(sort, names):
    """All arguments of a call of this sort with these ascending names, in Python's order."""
    if sort == ONE:
        return list(names)
    return choices(names) if sort == MANY else [None]


def is_given(sort, argument, name):
    """1 or 0, whether a name is given by an argument, or None if a deed of the sort one is not for it."""
    if sort == ONE:
        return 1 if name == argument else None
    return 1 if sort == MANY and name in argument else 0


def deed_rows(design, names):
    """All deeds with these ascending names, in the order of point 11, as rows.

    A row is a triple: the deed, the place of its call, and for each name what is_given tells.
    """
    rows = []
    for place, (call, sort, _) in enumerate(design.calls):
        for argument in arguments(sort, names):
            given = [is_given(sort, argument, name) for name in names]
            rows.append(((call, argument), place, given))
    return rows


def rows_of(design, call, names):
    """The rows of the deeds of a call with these names."""
    return [row for row in deed_rows(design, names) if row[0][0] == call]


def beginning(names):
    """The state at the beginning, with these names looked at."""
    return (0,) * (len(names) + 1)


def every_state(design):
    """All states with one name looked at, also those that nobody reaches."""
    return [(place, inside) for place in range(len(design.modes)) for inside in range(1 << len(design.fields))]


def behind(moves, state, row):
    """The state behind the deed of a row, or None if it is refused."""
    _, place, given = row
    move = moves[place][state[0]]
    if move is None:
        return None
    after, numbers = move
    later = [inside if one is None else numbers[2 * inside + one] for inside, one in zip(state[1:], given)]
    return None if None in later else (after, *later)


def first_ways(start, rows, step):
    """For each state that is reached, in the order of point 11, the first history to it.

    The step gives the state behind the deed of a row, or None.
    """
    ways = {start: ()}
    states = [start]
    at = 0
    while at < len(states):
        state = states[at]
        for row in rows:
            later = step(state, row)
            if later is not None and later not in ways:
                ways[later] = (*ways[state], row[0])
                states.append(later)
        at += 1
    return ways


def is_closed(states, rows, step):
    """Whether there is in a dict, with each of its states, each state that the deeds of the rows lead to."""
    for state in states:
        for row in rows:
            later = step(state, row)
            if later is not None and later not in states:
                return False
    return True


def reached(design, names):
    """For each state that these names reach in a keeper, the first history to it."""
    moves = all_moves(design)
    return first_ways(beginning(names), deed_rows(design, names), lambda state, row: behind(moves, state, row))
