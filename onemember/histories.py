"""Histories of deeds: played, told as texts, compared, and all of them in their order (point 11)."""

from onemember.deeds import behind_deed, first_state
from onemember.designs import check_design
from onemember.errors import InvalidArgument, InvalidHistory, InvalidNames, InvalidText, Refused, WrongMode
from onemember.keepers import Keeper
from onemember.kinds import is_integer, is_tuple_of
from onemember.members import Members
from onemember.names import is_name
from onemember.shapes import MANY, ONE
from onemember.steps import all_moves, beginning, behind, deed_rows

MOST_DEEDS = 6


def play(design, history):
    """The keeper behind a history."""
    check_design(design)
    check_history(design, history)
    keeper = Keeper(design)
    deeds = [(call, for_keeper(argument)) for call, argument in history]
    # All at once, as nobody asks for the changes of the views behind each deed.
    keeper.do_all(*deeds)
    return keeper


def outcomes(design, history):
    """For each deed whether it is granted; refused ones change nothing."""
    check_design(design)
    check_history(design, history)
    state = first_state(design)
    granted = []
    for deed in history:
        later = behind_deeds(design, state, (deed,))
        granted.append(later is not None)
        state = state if later is None else later
    return tuple(granted)


def behind_deeds(design, state, deeds):
    """The state of a keeper behind deeds of a history, or None if one of them is refused."""
    try:
        for call, argument in deeds:
            state = behind_deed(design, state, call, for_keeper(argument))
    except (WrongMode, Refused):
        return None
    return state


def for_keeper(argument):
    """The argument of a deed of a history, as a keeper takes it."""
    return Members.from_names(argument) if isinstance(argument, tuple) else argument


def check_history(design, history):
    """Refuse what is not a tuple of deeds of the design."""
    if not isinstance(history, tuple):
        raise InvalidHistory(None)
    for at, deed in enumerate(history):
        if not is_deed(design, deed):
            raise InvalidHistory(at)


def is_history(design, value):
    """Whether a value is a tuple of deeds of the design."""
    return isinstance(value, tuple) and all([is_deed(design, deed) for deed in value])


def is_deed(design, value):
    """Whether a value is a deed of the design, as it stands in a history."""
    return is_tuple_of(value, 2) and value[0] in design and is_wanted(design.sort_of(value[0]), value[1])


def is_wanted(sort, value):
    """Whether a value is the argument, in a history, of a call of this sort."""
    if sort == ONE:
        return is_name(value)
    return is_ascending(value) if sort == MANY else value is None


def is_ascending(value):
    """Whether a value is an ascending tuple of names."""
    return isinstance(value, tuple) and out_of_order_at(value) is None


def out_of_order_at(values):
    """The place of the first value that is no name, or not greater than the name before it, or None."""
    for at, value in enumerate(values):
        if not is_name(value) or (at > 0 and value <= values[at - 1]):
            return at
    return None


def history_text(history):
    """The text of a history of any design."""
    if not isinstance(history, tuple):
        raise InvalidHistory(None)
    for at, deed in enumerate(history):
        if not is_any_deed(deed):
            raise InvalidHistory(at)
    return "; ".join([deed_text(call, argument) for call, argument in history])


def is_any_deed(value):
    """Whether a value is a deed of some design."""
    if not is_tuple_of(value, 2) or not is_name(value[0]):
        return False
    return value[1] is None or is_name(value[1]) or is_ascending(value[1])


def deed_text(call, argument):
    """The text of a deed."""
    if argument is None:
        return call
    if isinstance(argument, str):
        return f"{call} {argument}"
    names = " ".join(argument)
    return call + " {" + names + "}"


def read_history(text):
    """The history with this text."""
    if not isinstance(text, str):
        raise InvalidText(text)
    parts = text.split("; ") if text else []
    history = tuple([read_deed(part) for part in parts])
    if not all([is_any_deed(deed) for deed in history]) or history_text(history) != text:
        raise InvalidText(text)
    return history


def read_deed(text):
    """The pair (call, argument) that a text tells, valid or not."""
    call, gap, rest = text.partition(" ")
    if not gap:
        return (call, None)
    if not rest.startswith("{"):
        return (call, rest)
    names = rest[1:-1]
    return (call, tuple(names.split(" ")) if names else ())


def compare(design, one, other):
    """-1, 0 or 1: the first history comes earlier than the other one, is equal, or comes later."""
    check_design(design)
    check_history(design, one)
    check_history(design, other)
    if len(one) != len(other):
        return -1 if len(one) < len(other) else 1
    for (call, argument), (other_call, other_argument) in zip(one, other):
        if call != other_call:
            return -1 if design.names.index(call) < design.names.index(other_call) else 1
        if argument != other_argument:
            return -1 if argument < other_argument else 1
    return 0


def histories(design, names, *, most):
    """All granted histories with at most so many deeds and with these names, in their order."""
    check_design(design)
    check_ascending(names)
    if not is_integer(most) or not 0 <= most <= MOST_DEEDS:
        raise InvalidArgument(most)
    yield ()
    moves = all_moves(design)
    # Many names have very many sets, which no deed needs if there is none.
    rows = deed_rows(design, names) if most else []
    level = [((), beginning(names))]
    for deeds in range(1, most + 1):
        longer = []
        for way, state in level:
            for row in rows:
                later = behind(moves, state, row)
                if later is not None:
                    yield (*way, row[0])
                    if deeds < most:
                        longer.append(((*way, row[0]), later))
        # A copy: the loop over the level does not go over the list that it makes longer.
        level = list(longer)


def check_ascending(names):
    """Refuse what is not an ascending tuple of names."""
    if not isinstance(names, tuple):
        raise InvalidNames(None)
    at = out_of_order_at(names)
    if at is not None:
        raise InvalidNames(at)
