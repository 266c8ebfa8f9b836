"""The weakest design in which a fact holds for ever, and designs that are doomed (point 21)."""

from onemember.deciding import check_question
from onemember.designs import Design
from onemember.errors import InvalidNames
from onemember.expressions import check_fact
from onemember.forming import form_telling
from onemember.forms import NONE
from onemember.limits import MOST_FACTS
from onemember.steps import ALONE, all_moves, beginning, behind, deed_rows, every_state, fault_bits, first_ways, is_in
from onemember.steps import leaf_bits, places_of


def weakest(fact, design, *, free=()):
    """A weakest design for a fact, or None if the fact fails in each stricter one."""
    check_guards(fact, design, free)
    lost = lost_states(fact, design, free)
    if beginning(ALONE) in lost:
        return None
    stricter = []
    for call, moves in zip(design.calls, all_moves(design)):
        name, sort, cases = call
        stricter.append(call if name in free else (name, sort, guarded_cases(design, sort, cases, moves, lost)))
    return Design(design.fields, design.modes, tuple(stricter), design.views)


def doomed(fact, design, *, free=()):
    """The first history, with x alone and of deeds of free calls, behind which the fact does not hold, or None."""
    check_guards(fact, design, free)
    moves = all_moves(design)
    ways = first_ways(beginning(ALONE), free_rows(design, free), lambda state, row: behind(moves, state, row))
    broken = broken_insides(fact, design)
    for state, way in ways.items():
        if state[1] in broken:
            return way
    return None


def lost_states(fact, design, free):
    """A dict of the states with one name from which deeds of free calls lead to one that breaks the fact."""
    moves = all_moves(design)
    rows = free_rows(design, free)
    broken = broken_insides(fact, design)
    states = every_state(design)
    lost = {}
    more = [state for state in states if state[1] in broken]
    while more:
        for state in more:
            lost[state] = True
        more = [state for state in states if state not in lost
                and any([behind(moves, state, row) in lost for row in rows])]
    return lost


def broken_insides(fact, design):
    """The numbers of fields with which a member breaks the fact."""
    faults = fault_bits(fact.form, leaf_bits(design.fields))
    return [inside for inside in range(1 << len(design.fields)) if is_in(faults, inside)]


def free_rows(design, free):
    """The rows of the deeds of free calls for x alone."""
    return [row for row in deed_rows(design, ALONE) if row[0][0] in free]


def guarded_cases(design, sort, cases, moves, lost):
    """The cases of a call that is not free, so that nobody comes into a state that is lost."""
    guarded = []
    for case in cases:
        mode = design.modes.index(case[0])
        after, later = moves[mode]
        # Somebody who is nowhere and not given comes along with each deed, and no fact refuses it because of him.
        if (after, 0) not in lost:
            safe = [inside for place, inside in every_state(design) if place == mode and (place, inside) not in lost]
            lost_then = [inside for place, inside in lost if place == after]
            guarded.append(guarded_case(design.fields, sort, case, later, safe, lost_then))
    return tuple(guarded)


def guarded_case(fields, sort, case, later, safe, lost_then):
    """A case with facts that let nobody come from fields that are safe to fields that are lost.

    All are told by their numbers, and later has the number behind each place, or None where the case refuses.
    """
    mode, facts, updates, after = case
    places = places_of(sort, safe)
    fatal = [place for place in places if later[place] in lost_then]
    if not fatal:
        return case
    granted = [place for place in places if later[place] is not None and place not in fatal]
    if len(facts) == MOST_FACTS:
        # One fact more would be too many, so a single one refuses what all of them did, too.
        facts = ()
        fatal = fatal + [place for place in places_of(sort, list(range(1 << len(fields)))) if later[place] is None]
    return (mode, (*facts, (form_telling(fields, fatal, granted), NONE)), updates, after)


def check_guards(fact, design, free):
    """Refuse what is no fact of a design, and what is not a tuple of different names of its calls."""
    check_fact(fact)
    check_question(design, (fact.left, fact.right), None)
    if not isinstance(free, tuple):
        raise InvalidNames(None)
    for at, name in enumerate(free):
        if name not in design or name in free[:at]:
            raise InvalidNames(at)
