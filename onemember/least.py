"""Which fields of a design are told apart, and a design that is alike with the least number of fields (point 20)."""

from onemember.alike import Both, is_parted, view_bits
from onemember.deciding import check_inside, nodes
from onemember.designs import Design, check_design
from onemember.errors import UnknownMode
from onemember.forming import form_telling
from onemember.forms import NONE
from onemember.steps import ALONE, GIVENS, all_moves, behind, deed_rows, every_state, is_in, number_of


def classes(design):
    """For each mode the tuple of its classes, each one the tuple of the fields of its nodes."""
    check_design(design)
    kinds = kinds_of_states(design)
    found = [{} for _ in design.modes]
    for mode, inside in nodes(design):
        place = design.modes.index(mode)
        kind = kinds[place, number_of(design.fields, inside)]
        found[place].setdefault(kind, []).append(inside)
    # The dicts have their keys in the order of the first nodes.
    return tuple([tuple([tuple(group) for group in groups.values()]) for groups in found])


def kinds_of_states(design):
    """For each state with one name looked at a number: that of another state exactly if they are not told apart."""
    moves = all_moves(design)
    rows = deed_rows(design, ALONE)
    kinds = numbered(shown_at(design))
    finer = numbered(shown_behind(moves, rows, kinds))
    while finer != kinds:
        kinds = finer
        finer = numbered(shown_behind(moves, rows, kinds))
    return kinds


def shown_at(design):
    """For each state what shows at once: the mode, and the views in which the name is."""
    views = [view_bits(design, name) for name in design.view_names]
    return {(place, inside): (place, *[is_in(bits[place], inside) for bits in views])
            for place, inside in every_state(design)}


def shown_behind(moves, rows, kinds):
    """For each state its number, and the numbers behind all deeds, None for those that are refused."""
    return {state: (kinds[state], *[kinds.get(behind(moves, state, row)) for row in rows]) for state in kinds}


def numbered(marks):
    """A dict with the same keys, in which equal values are the same numbers, from 0 on as they come."""
    numbers = {}
    for mark in marks.values():
        numbers.setdefault(mark, len(numbers))
    return {state: numbers[mark] for state, mark in marks.items()}


def told_apart(design, mode, one, other):
    """The first triple (history, word, what) that tells two tuples of fields apart in a mode, or None."""
    check_design(design)
    if mode not in design.modes:
        raise UnknownMode(mode)
    check_inside(one, design)
    check_inside(other, design)
    return first_apart(Both(design, design), design, mode, one, other)


def first_apart(both, design, mode, one, other):
    """What tells two tuples of fields apart, where the design is told twice by a Both."""
    place = design.modes.index(mode)
    start = (place, number_of(design.fields, one), place, number_of(design.fields, other))
    return both.first_sign(start, is_parted)


def fewest(design):
    """The least number of fields of a design that is alike."""
    most = max([len(found) for found in classes(design)])
    many = 1
    while (1 << many) < most:
        many += 1
    return many


def least_design(design):
    """A design that is alike with the least number of fields: in them a member has the number of its class."""
    many = fewest(design)
    if many == len(design.fields):
        return design
    fields = design.fields[:many]
    numbers = class_numbers(design)
    calls = tuple([(name, sort, less_cases(design, name, sort, fields, numbers)) for name, sort, _ in design.calls])
    views = tuple([(name, less_forms(design, name, fields, numbers)) for name in design.view_names])
    return Design(fields, design.modes, calls, views)


def class_numbers(design):
    """For each mode a dict with the number of its class for each node, told by the number of its fields."""
    # The first class of each mode has the node without fields, whose number has to be 0: nobody is put in there.
    return [
        {number_of(design.fields, inside): number for number, group in enumerate(groups) for inside in group}
        for groups in classes(design)
    ]


def less_cases(design, name, sort, fields, numbers):
    """The cases of a call in the design with less fields; those that are never granted are left out."""
    cases = []
    for place, move in enumerate(all_moves(design)[design.names.index(name)]):
        later = {} if move is None else numbers_behind(move, sort, numbers[place], numbers)
        granted = {at: number for at, number in later.items() if number is not None}
        if granted:
            refused = [at for at in later if at not in granted]
            facts = ((form_telling(fields, refused, list(granted)), NONE),) if refused else ()
            mode, after = design.modes[place], design.modes[move[0]]
            cases.append((mode, facts, less_updates(fields, granted), after))
    return tuple(cases)


def numbers_behind(move, sort, numbers_now, numbers):
    """For each place of the new fields the new number behind a deed, or None if it is refused."""
    after, later = move
    found = {}
    for inside, number in numbers_now.items():
        for given in GIVENS[sort]:
            found[2 * number + given] = numbers[after].get(later[2 * inside + given])
    return found


def less_updates(fields, granted):
    """The updates that lead from the places to the numbers of a dict."""
    updates = []
    for at, field in enumerate(fields):
        inside = [place for place, number in granted.items() if (number >> at) & 1]
        outside = [place for place in granted if place not in inside]
        form = form_telling(fields, inside, outside)
        if form != field:
            updates.append((field, form))
    return tuple(updates)


def less_forms(design, name, fields, numbers):
    """The forms of a view in the design with less fields."""
    forms = []
    for bits, numbers_now in zip(view_bits(design, name), numbers):
        inside = [2 * number for old, number in numbers_now.items() if is_in(bits, old)]
        outside = [2 * number for old, number in numbers_now.items() if not is_in(bits, old)]
        forms.append(form_telling(fields, inside, outside))
    return tuple(forms)
