"""Which tuples are the fields, modes, calls and views of a design (point 9), whatever is passed."""

from onemember.errors import InvalidCalls, InvalidFields, InvalidModes, InvalidPairs, InvalidViews
from onemember.forms import GIVEN, NONE, is_field, is_form_of
from onemember.kinds import is_tuple_of
from onemember.limits import MOST_CALLS, MOST_FACTS, MOST_FIELDS, MOST_MODES, MOST_VIEWS
from onemember.names import is_name, wrong_or_twice_at

ONE = "one"
MANY = "many"
NO_ARGUMENT = "none"
SORTS = ("one", "many", "none")


def check_fields(fields):
    """Refuse what is not one to four different names of fields."""
    if not isinstance(fields, tuple) or not 1 <= len(fields) <= MOST_FIELDS:
        raise InvalidFields(None)
    for at, field in enumerate(fields):
        if not is_field(field) or field in fields[:at]:
            raise InvalidFields(at)


def check_modes(modes):
    """Refuse what is not one to four different names."""
    if not isinstance(modes, tuple) or not 1 <= len(modes) <= MOST_MODES:
        raise InvalidModes(None)
    at = wrong_or_twice_at(modes)
    if at is not None:
        raise InvalidModes(at)


def check_calls(calls, fields, modes):
    """Refuse what is not up to eight calls with different names."""
    if not isinstance(calls, tuple) or len(calls) > MOST_CALLS:
        raise InvalidCalls(None)
    names = []
    for at, call in enumerate(calls):
        if not is_call(call, fields, modes) or call[0] in names:
            raise InvalidCalls(at)
        names.append(call[0])


def check_views(views, fields, modes):
    """Refuse what is not up to four views with different names."""
    if not isinstance(views, tuple) or len(views) > MOST_VIEWS:
        raise InvalidViews(None)
    names = []
    for at, view in enumerate(views):
        if not is_view(view, fields, modes) or view[0] in names:
            raise InvalidViews(at)
        names.append(view[0])


def is_call(value, fields, modes):
    """Whether a value is a call (name, sort, cases) for these fields and modes."""
    if not is_tuple_of(value, 3):
        return False
    name, sort, cases = value
    if not is_name(name) or sort not in SORTS or not isinstance(cases, tuple):
        return False
    found = []
    for case in cases:
        if not is_case(case, sort, fields, modes) or case[0] in found:
            return False
        found.append(case[0])
    return True


def is_case(value, sort, fields, modes):
    """Whether a value is a case (mode, facts, updates, after) of a call of this sort."""
    if not is_tuple_of(value, 4):
        return False
    mode, facts, updates, after = value
    if mode not in modes or after not in modes or (sort == ONE and after != mode):
        return False
    leaves = (*fields, NONE) if sort == NO_ARGUMENT else (*fields, NONE, GIVEN)
    return are_facts(facts, leaves) and are_updates(updates, fields, leaves)


def are_facts(value, leaves):
    """Whether a value is at most five pairs of forms with these leaves."""
    if not isinstance(value, tuple) or len(value) > MOST_FACTS:
        return False
    for fact in value:
        if not is_tuple_of(fact, 2) or not is_form_of(fact[0], leaves) or not is_form_of(fact[1], leaves):
            return False
    return True


def are_updates(value, fields, leaves):
    """Whether a value is pairs of different fields and forms with these leaves."""
    if not isinstance(value, tuple):
        return False
    found = []
    for update in value:
        if not is_tuple_of(update, 2) or update[0] not in fields or update[0] in found:
            return False
        if not is_form_of(update[1], leaves):
            return False
        found.append(update[0])
    return True


def is_view(value, fields, modes):
    """Whether a value is a view (name, forms) with a form for each mode."""
    if not is_tuple_of(value, 2) or not is_name(value[0]) or not is_tuple_of(value[1], len(modes)):
        return False
    return all([is_form_of(form, (*fields, NONE)) for form in value[1]])


def check_pairs(pairs, fields):
    """Refuse what is not pairs of different fields and new names that leave all names different."""
    if not isinstance(pairs, tuple):
        raise InvalidPairs(None)
    renamed = [pair[0] for pair in pairs if is_tuple_of(pair, 2)]
    taken = [field for field in fields if field not in renamed]
    found = []
    for at, pair in enumerate(pairs):
        if not is_tuple_of(pair, 2) or pair[0] not in fields or pair[0] in found:
            raise InvalidPairs(at)
        if not is_field(pair[1]) or pair[1] in taken:
            raise InvalidPairs(at)
        found.append(pair[0])
        taken.append(pair[1])
