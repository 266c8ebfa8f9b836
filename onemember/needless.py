"""What is needless in a design, the design without it, and fields that are derived (point 22)."""

from onemember.designs import Design, check_design
from onemember.errors import UnknownField
from onemember.expressions import Expression
from onemember.forming import form_telling
from onemember.forms import form_value
from onemember.shapes import NO_ARGUMENT
from onemember.steps import ALONE, fault_bits, is_at, leaf_bits, places_of, reached


def needless(design):
    """A tuple of rows for the cases, facts and updates that are needless by themselves."""
    check_design(design)
    found = []
    for call, case, places in tried_cases(design):
        for word, *which in needless_parts(case, places, design.fields):
            found.append((word, call, case[0], *which))
    return tuple(found)


def pruned(design):
    """The design without the first needless row, again and again until none is left."""
    check_design(design)
    kept = {call: [] for call in design.names}
    # Whatever is needless leaves the nodes as they are when it is left out, so each case can be pruned for itself.
    for call, case, places in tried_cases(design):
        shorter = pruned_case(case, places, design.fields)
        if shorter is not None:
            kept[call].append(shorter)
    calls = tuple([(call, sort, tuple(kept[call])) for call, sort, _ in design.calls])
    return Design(design.fields, design.modes, calls, design.views)


def tried_cases(design):
    """For each case its call, the case, and the places of leaf_bits at which members can be when it is tried."""
    states = list(reached(design, ALONE))
    found = []
    for call, sort, cases in design.calls:
        for case in cases:
            mode = design.modes.index(case[0])
            found.append((call, case, places_of(sort, [inside for place, inside in states if place == mode])))
    return found


def needless_parts(case, places, fields):
    """What is needless in a case: the case, told by a word, or facts and updates, by a word and what tells them."""
    _, facts, updates, _ = case
    table = leaf_bits(fields)
    faults = [fault_bits(fact, table) for fact in facts]
    broken = {place: [at for at, fault in enumerate(faults) if is_at(fault, place)] for place in places}
    granted = [place for place in places if not broken[place]]
    if not granted:
        return [("case",)]
    # A fact is needed where it alone does not hold.
    found = [("fact", at) for at in range(len(facts)) if [at] not in list(broken.values())]
    for field, form in updates:
        changed = form_value(form, table) ^ table[field]
        if not any([is_at(changed, place) for place in granted]):
            found.append(("update", field))
    return found


def pruned_case(case, places, fields):
    """A case without its first needless part, again and again, or None if the case itself is needless."""
    parts = needless_parts(case, places, fields)
    while parts:
        if parts[0] == ("case",):
            return None
        case = without_part(case, parts[0])
        parts = needless_parts(case, places, fields)
    return case


def without_part(case, part):
    """A case without a fact or an update."""
    mode, facts, updates, after = case
    word, which = part
    if word == "fact":
        return (mode, facts[:which] + facts[which + 1:], updates, after)
    return (mode, facts, tuple([update for update in updates if update[0] != which]), after)


def derived(design, field):
    """An Expression of the other fields that always has the members of the field, or None."""
    check_design(design)
    if field not in design.fields:
        raise UnknownField(field)
    bit = 1 << design.fields.index(field)
    insides = [inside for _, inside in reached(design, ALONE)]
    # Somebody in a field, and in no other ones than somebody who is not in it, is told by no expression of the others.
    inside = [number - bit for number in insides if number & bit]
    outside = [number for number in insides if not number & bit]
    if any([number in outside for number in inside]):
        return None
    return Expression(form_telling(design.fields, places_of(NO_ARGUMENT, inside), places_of(NO_ARGUMENT, outside)))
