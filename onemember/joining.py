"""Designs side by side, and two fields of a design made one."""

from onemember.designs import Design, check_design, renamed_call, renamed_forms
from onemember.errors import NotComparable, TooManyCalls, TooManyFacts, TooManyFields, TooManyViews, UnknownField
from onemember.limits import MOST_CALLS, MOST_FACTS, MOST_FIELDS, MOST_VIEWS
from onemember.steps import ALONE, fields_of, reached


def beside(first, second):
    """The design that does both side by side, where the second one has a single mode."""
    check_design(first)
    check_design(second)
    if not can_be_beside(first, second):
        raise NotComparable("several modes, a name of both, or a call of two sorts")
    fields = first.fields + second.fields
    calls = calls_beside(first, second)
    views = first.views + tuple([(name, forms * len(first.modes)) for name, forms in second.views])
    check_limits(fields, calls, views)
    return Design(fields, first.modes, calls, views)


def can_be_beside(first, second):
    """Whether two designs differ where they have to."""
    if len(second.modes) > 1 or any([field in first.fields for field in second.fields]):
        return False
    if any([name in first.view_names for name in second.view_names]):
        return False
    return all([name not in first or first.sort_of(name) == sort for name, sort, _ in second.calls])


def calls_beside(first, second):
    """The calls of two designs side by side."""
    joint = []
    for name, sort, cases in first.calls:
        if name in second:
            other = second.case_of(name, second.modes[0])
            cases_of_both = [] if other is None else [case_beside(case, other) for case in cases]
            joint.append((name, sort, tuple(cases_of_both)))
        else:
            joint.append((name, sort, cases))
    for name, sort, cases in second.calls:
        if name not in first:
            everywhere = [(mode, facts, updates, mode) for mode in first.modes for _, facts, updates, _ in cases]
            joint.append((name, sort, tuple(everywhere)))
    return tuple(joint)


def case_beside(case, other):
    """A case that does what two cases do, with the modes of the first one."""
    mode, facts, updates, after = case
    _, other_facts, other_updates, _ = other
    return (mode, facts + other_facts, updates + other_updates, after)


def check_limits(fields, calls, views):
    """Refuse more fields, calls, views, or facts in a case than a design has."""
    if len(fields) > MOST_FIELDS:
        raise TooManyFields(MOST_FIELDS)
    if len(calls) > MOST_CALLS:
        raise TooManyCalls(MOST_CALLS)
    if len(views) > MOST_VIEWS:
        raise TooManyViews(MOST_VIEWS)
    if any([len(facts) > MOST_FACTS for _, _, cases in calls for _, facts, _, _ in cases]):
        raise TooManyFacts(MOST_FACTS)


def merged(design, one, other):
    """The design in which two fields that are always equal are the first one of them."""
    check_design(design)
    for field in (one, other):
        if field not in design.fields:
            raise UnknownField(field)
    if one == other or not are_equal(design, one, other):
        raise NotComparable("the fields are the same, or not always equal")
    names = {other: one}
    fields = tuple([field for field in design.fields if field != other])
    calls = tuple([renamed_call(without_updates(call, other), names) for call in design.calls])
    views = tuple([(name, renamed_forms(forms, names)) for name, forms in design.views])
    return Design(fields, design.modes, calls, views)


def are_equal(design, one, other):
    """Whether whoever is in one of two fields is always in the other one, too."""
    insides = [fields_of(design.fields, inside) for _, inside in reached(design, ALONE)]
    return all([(one in inside) == (other in inside) for inside in insides])


def without_updates(call, field):
    """A call without its updates of a field."""
    name, sort, cases = call
    return (name, sort, tuple([
        (mode, facts, tuple([update for update in updates if update[0] != field]), after)
        for mode, facts, updates, after in cases
    ]))
