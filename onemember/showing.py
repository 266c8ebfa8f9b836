"""The claims that are shown by histories: those with "not", and that no design with less fields is alike.

A state is a pair as in the file deeds: the mode, and a tuple of pairs (field, Members).
"""

from onemember.alike import are_comparable, is_fallen, is_parted
from onemember.deeds import first_state, shown_members
from onemember.histories import behind_deeds, is_ascending, is_deed, is_history
from onemember.kinds import is_tuple_of
from onemember.loops import STOP, WHOLE
from onemember.steps import ALONE, deed_rows


def states_along(design, history):
    """The states at the beginning and behind each deed, or None for what is no history, or is not granted."""
    if not is_history(design, history):
        return None
    states = [first_state(design)]
    for deed in history:
        later = behind_deeds(design, states[-1], (deed,))
        if later is None:
            return None
        states.append(later)
    return states


def end_of(design, history):
    """The state behind a history, or None for what is no history, or is not granted."""
    return behind_deeds(design, first_state(design), history) if is_history(design, history) else None


def is_meant(design, state, modes):
    """Whether there is a state, and its mode is at one of these places."""
    return state is not None and design.modes.index(state[0]) in modes


def shows_not_always(design, parts, paper):
    """Whether a fact does not hold behind a history."""
    fact, modes = parts
    state = end_of(design, paper)
    return is_meant(design, state, modes) and not fact.is_kept(state[1])


def shows_not_apart(design, parts, paper):
    """Whether two members are in the two expressions behind a history."""
    one, other, modes = parts
    if not is_tuple_of(paper, 3):
        return False
    way, name, other_name = paper
    state = end_of(design, way)
    if not is_meant(design, state, modes):
        return False
    # Compared last, when both are names for sure: other values could be too large to be compared.
    return name in one.of(state[1]) and other_name in other.of(state[1]) and name != other_name


def shows_not_bounded(design, parts, paper):
    """Whether the sum of terms for a member alone is above 0 behind a history."""
    terms, modes = parts
    if not is_tuple_of(paper, 2):
        return False
    way, name = paper
    state = end_of(design, way)
    if not is_meant(design, state, modes):
        return False
    return sum([number for expression, number in terms if name in expression.of(state[1])]) > 0


def shows_not_been(design, parts, paper):
    """Whether behind a history a member is in the first expression who has never been in the second one."""
    one, other = parts
    states = states_along(design, paper[0]) if is_tuple_of(paper, 2) else None
    if states is None or paper[1] not in one.of(states[-1][1]):
        return False
    return not any([paper[1] in other.of(sets) for _, sets in states])


def shows_not_stays(design, parts, paper):
    """Whether a member leaves an expression by the last deed of a history."""
    states = states_along(design, paper[0]) if is_tuple_of(paper, 2) else None
    if states is None or len(states) == 1:
        return False
    before, later = [parts[0].of(sets) for _, sets in states[-2:]]
    return paper[1] in before and paper[1] not in later


def shows_not_comes(design, parts, paper):
    """Whether a member comes into the first expression from outside both by the last deed of a history."""
    one, other = parts
    states = states_along(design, paper[0]) if is_tuple_of(paper, 2) else None
    if states is None or len(states) == 1:
        return False
    before, later = [sets for _, sets in states[-2:]]
    return paper[1] in one.of(later) and paper[1] not in one.of(before) and paper[1] not in other.of(before)


def shows_not_alike(design, parts, paper):
    """Whether something behind a history shows that two designs are not alike."""
    return shows_sign(design, parts[0], paper, is_parted)


def shows_not_standing_in(design, parts, paper):
    """Whether something behind a history shows that the first design does not stand in for the second one."""
    return shows_sign(design, parts[0], paper, is_fallen)


def shows_sign(first, second, paper, differs):
    """Whether a triple (history, word, what) shows that two designs differ."""
    if not is_tuple_of(paper, 3) or not are_comparable(first, second):
        return False
    way, word, what = paper
    return is_sign((first, end_of(first, way)), (second, end_of(second, way)), word, what, differs)


def is_sign(one, other, word, what, differs):
    """Whether a word, and what belongs to it, part two pairs (design, state), of which the states may be None."""
    (first, here), (second, there) = one, other
    if here is None or there is None:
        return False
    if word == "mode":
        return what is None and here[0] != there[0]
    if word == "view":
        return what in first.view_names and shown_members(first, here, what) != shown_members(second, there, what)
    if word == "deed" and is_deed(first, what):
        return differs(behind_deeds(first, here, (what,)), behind_deeds(second, there, (what,)))
    return False


def shows_other_loop(design, parts, paper):
    """Whether a loop over names does something else than the call with them behind a history."""
    one, many, rule = parts
    if not is_tuple_of(paper, 2) or not is_ascending(paper[1]):
        return False
    way, names = paper
    state = end_of(design, way)
    if state is None:
        return False
    later = behind_deeds(design, state, ((many, names),))
    due = (False, state) if later is None else (True, later)
    return behind_loop(design, state, [(one, name) for name in names], rule) != due


def behind_loop(design, state, deeds, rule):
    """Whether a loop that does these deeds is granted, and the state behind it."""
    if rule == WHOLE and any([behind_deeds(design, state, (deed,)) is None for deed in deeds]):
        return (False, state)
    for deed in deeds:
        later = behind_deeds(design, state, (deed,))
        if later is None and rule == STOP:
            return (False, state)
        # By the other rules a deed that is refused is passed over.
        state = state if later is None else later
    return (True, state)


def shows_disorder(design, parts, paper):
    """Whether two deeds do not commute behind a history."""
    first, second = parts
    if not is_tuple_of(paper, 3):
        return False
    way, argument, other_argument = paper
    one, other = (first, argument), (second, other_argument)
    state = end_of(design, way)
    if state is None or not is_deed(design, one) or not is_deed(design, other):
        return False
    return behind_deeds(design, state, (one, other)) != behind_deeds(design, state, (other, one))


def shows_fields(design, parts, paper):
    """Whether histories lead to more states of a mode, all told apart, than one field less can tell."""
    if not is_tuple_of(paper, 2) or not isinstance(paper[0], tuple) or not isinstance(paper[1], tuple):
        return False
    ways, signs = paper
    least = 1 if parts[0] == 1 else (1 << (parts[0] - 1)) + 1
    if len(ways) < least or len(signs) != len(ways) * (len(ways) - 1) // 2:
        return False
    deeds = [row[0] for row in deed_rows(design, ALONE)]
    states = [end_of(design, way) if are_among(way, deeds) else None for way in ways]
    modes = [None if state is None else state[0] for state in states]
    if None in modes or any([mode != modes[0] for mode in modes]):
        return False
    pairs = [(states[first], states[second]) for second in range(len(states)) for first in range(second)]
    return all([tells_apart(design, deeds, pair, sign) for pair, sign in zip(pairs, signs)])


def are_among(value, deeds):
    """Whether a value is a tuple of some of these deeds."""
    return isinstance(value, tuple) and all([deed in deeds for deed in value])


def tells_apart(design, deeds, pair, sign):
    """Whether a triple (tuple of deeds, word, what) tells two states apart, where all deeds are among these."""
    if not is_tuple_of(sign, 3) or not are_among(sign[0], deeds):
        return False
    way, word, what = sign
    if word == "deed" and what not in deeds:
        return False
    here, there = [(design, behind_deeds(design, state, way)) for state in pair]
    return is_sign(here, there, word, what, is_parted)


SHOWN = {
    "not always": shows_not_always,
    "not apart": shows_not_apart,
    "not bounded": shows_not_bounded,
    "not been": shows_not_been,
    "not stays": shows_not_stays,
    "not comes": shows_not_comes,
    "not alike": shows_not_alike,
    "not stands in": shows_not_standing_in,
    "not same loop": shows_other_loop,
    "not commute": shows_disorder,
    "fields": shows_fields,
}


def is_shown(word, design, parts, paper):
    """Whether a claim with this word is shown by a certificate."""
    if word not in SHOWN:
        return False
    shows = SHOWN[word]
    return shows(design, parts, paper)
