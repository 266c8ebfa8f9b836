"""What deeds do to whole sets (point 10). A state is a pair: the mode, and a tuple of pairs (field, Members)."""

from onemember.errors import Broken, InvalidArgument, Refused, WrongMode
from onemember.forms import GIVEN, NONE, form_meets, form_value
from onemember.members import Change, Members
from onemember.names import is_name
from onemember.shapes import MANY, ONE


def first_state(design):
    """The state of a new keeper."""
    return (design.modes[0], tuple([(field, Members()) for field in design.fields]))


def check_deed(design, call, argument):
    """Refuse what is no call of the design, and an argument that its sort does not want."""
    if not is_argument(design.sort_of(call), argument):
        raise InvalidArgument(argument)


def is_argument(sort, value):
    """Whether a value is an argument of a call of this sort."""
    if sort == ONE:
        return is_name(value)
    if sort == MANY:
        return isinstance(value, Members)
    return value is None


def behind_deed(design, state, call, argument):
    """The state behind a deed, if it is granted."""
    mode, sets = state
    case = design.case_of(call, mode)
    if case is None:
        raise WrongMode(mode)
    _, facts, updates, after = case
    if design.sort_of(call) == ONE:
        return (after, sets_behind_one(sets, facts, dict(updates), argument))
    given = Members() if argument is None else argument
    return (after, sets_behind_all(sets, facts, dict(updates), given))


def sets_behind_one(sets, facts, updates, name):
    """The sets behind a deed for one name: facts and updates are those of this name alone."""
    inside = [field for field, members in sets if name in members]
    for at, (left, right) in enumerate(facts):
        if form_meets(left, inside, True) and not form_meets(right, inside, True):
            raise Refused(at)
    alone = Members(name)
    behind = []
    for field, members in sets:
        # A field without an update is its own form.
        stays = form_meets(updates.get(field, field), inside, True)
        behind.append((field, members | alone if stays else members - alone))
    return tuple(behind)


def sets_behind_all(sets, facts, updates, given):
    """The sets behind a deed for many or none: facts and updates are those of the whole sets."""
    table = leaf_members(sets, given)
    for at, (left, right) in enumerate(facts):
        if not form_value(left, table) <= form_value(right, table):
            raise Refused(at)
    return tuple([(field, form_value(updates.get(field, field), table)) for field, _ in sets])


def leaf_members(sets, given):
    """The Members for each leaf of a form, as a dict."""
    table = dict(sets)
    table[NONE] = Members()
    table[GIVEN] = given
    return table


def check_kept(facts, state):
    """Refuse a state in which one of the facts does not hold."""
    for at, fact in enumerate(facts):
        if not fact.is_kept(state[1]):
            raise Broken(at)


def shown_members(design, state, view):
    """The Members of a view in a state."""
    mode, sets = state
    return design.view_of(view, mode).of(sets)


def view_changes(design, before, behind):
    """The pairs (name of a view, Change) for the views that have other members in the second state."""
    rows = []
    for view in design.view_names:
        change = Change.between(shown_members(design, before, view), shown_members(design, behind, view))
        if change:
            rows.append((view, change))
    return tuple(rows)
