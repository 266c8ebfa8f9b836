"""A second opinion on claims and their certificates, word for word as the document tells it, over plain keepers."""

import itertools
import re

from onemember.designs import Design
from onemember.errors import LimitError, SetError
from onemember.expressions import Expression, Fact
from tests.plain import Plain, deeds


class Wrong(Exception):
    """What is passed is not of the form that is told, or what is told there is not so."""


def plain_holds(claim, certificate):
    """What holds should give."""
    try:
        need(type(claim) is tuple and claim and type(claim[0]) is str and claim[0] in CLAIMS)
        CLAIMS[claim[0]](certificate, *parts_of(claim))
    except Wrong:
        return False
    return True


def need(condition):
    if not condition:
        raise Wrong


KINDS = {
    "always": "fact mode", "apart": "expr expr mode", "bounded": "terms mode", "been": "expr expr", "stays": "expr", "comes": "expr expr",
    "alike": "design", "stands in": "design", "same loop": "one many rule", "commute": "call call", "fields": "number", "derived": "field expr",
}


def parts_of(claim):
    """The design of a claim, and its other parts."""
    kinds = KINDS[claim[0].removeprefix("not ")].split()
    need(len(claim) == len(kinds) + 2)
    design = design_of(claim[1])
    return [design] + [part_of(kind, value, design) for kind, value in zip(kinds, claim[2:])]


def part_of(kind, value, design):
    if kind == "design":
        return design_of(value)
    if kind in ("fact", "expr"):
        return text_of(Fact if kind == "fact" else Expression, value, design)
    if kind == "terms":
        need(type(value) is tuple and 1 <= len(value) <= 4)
        need(all(type(pair) is tuple and len(pair) == 2 and type(pair[1]) is int for pair in value))
        return [(text_of(Expression, text, design), number) for text, number in value]
    if kind == "number":
        need(type(value) is int and 1 <= value <= 4)
    else:
        need(value is None and kind == "mode" or type(value) is str)
        sorts = {"one": "one", "many": "many"}
        need(value in {
            "mode": (None, *design.modes), "rule": ("skip", "whole", "stop"), "field": design.fields, "call": design.names,
            **{kind: [name for name, sort, _ in design.calls if sort == sorts[kind]] for kind in sorts},
        }[kind])
    return value


def design_of(text):
    try:
        return Design.read(text)
    except SetError:
        raise Wrong from None


def text_of(kind, text, design):
    try:
        told = kind.read(text)
    except (SetError, LimitError):
        raise Wrong from None
    need(not told.has_given and set(told.fields) <= set(design.fields))
    return told


def at(design, mode, **insides):
    """A plain keeper in a mode, with each name in just its fields."""
    return Plain(design, mode, {field: {name for name, inside in insides.items() if field in inside} for field in design.fields})


def is_name(value):
    return type(value) is str and re.fullmatch("[a-z][a-z0-9]{0,7}", value, re.ASCII) is not None


def need_deed(design, deed):
    need(type(deed) is tuple and len(deed) == 2 and type(deed[0]) is str and deed[0] in design.names)
    sort, argument = design.sort_of(deed[0]), deed[1]
    if sort == "one":
        need(is_name(argument))
    elif sort == "none":
        need(argument is None)
    else:
        need_names(argument)


def need_names(value):
    need(type(value) is tuple and all(is_name(name) for name in value))
    need(list(value) == sorted(set(value)))


def along(design, history):
    """The keepers at the beginning and behind each deed of a history that is granted."""
    need(type(history) is tuple)
    found = [Plain(design)]
    for deed in history:
        need_deed(design, deed)
        later = found[-1].copy()
        need(later.do(*deed))
        found.append(later)
    return found


def end(design, history, mode=None):
    keeper = along(design, history)[-1]
    need(mode in (None, keeper.mode))
    return keeper


def tuple_of(value, many):
    need(type(value) is tuple and len(value) == many)
    return value


def rows(certificate, modes, fields, flags=False):
    """The rows of a list, of which all insides are tuples of the fields told, in their order."""
    need(type(certificate) is tuple)
    for row in certificate:
        tuple_of(row, 1 + len(fields) + flags)
        need(type(row[0]) is str and row[0] in modes)
        for inside, names in zip(row[1:], fields):
            need(type(inside) is tuple and all(type(field) is str for field in inside))
            need(inside == tuple(field for field in names if field in inside))
        need(not flags or type(row[-1]) is bool)
    need(len(set(certificate)) == len(certificate))
    return set(certificate)


def a_list(design, certificate):
    found = rows(certificate, design.modes, [design.fields])
    need((design.modes[0], ()) in found)
    for mode, inside in found:
        for _, later in steps(design, mode, x=inside):
            need((later.mode, later.inside("x")) in found)
    return found


def steps(design, mode, **insides):
    """The pairs of a deed that is granted and the keeper behind it."""
    for deed in deeds(design, tuple(insides)):
        later = at(design, mode, **insides)
        if later.do(*deed):
            yield deed, later


def list_of_two(design, certificate):
    found = rows(certificate, design.modes, [design.fields] * 2)
    need((design.modes[0], (), ()) in found)
    for mode, one, other in found:
        for _, later in steps(design, mode, x=one, y=other):
            need((later.mode, later.inside("x"), later.inside("y")) in found)
    return found


def joint_list(first, second, certificate):
    found = rows(certificate, first.modes, [first.fields, second.fields])
    need((first.modes[0], (), ()) in found)
    for mode, inside, other in found:
        for deed in deeds(first, ("x",)):
            here, there = at(first, mode, x=inside), at(second, mode, x=other)
            if here.do(*deed) & there.do(*deed):
                need(here.mode == there.mode)
                need((here.mode, here.inside("x"), there.inside("x")) in found)
    return found


def in_form(design, mode, inside, expression):
    return "x" in at(design, mode, x=inside).who(expression.form)


def always(certificate, design, fact, mode):
    for at_mode, inside in a_list(design, certificate):
        need(mode not in (None, at_mode) or not in_form(design, at_mode, inside, fact.left) or in_form(design, at_mode, inside, fact.right))


def not_always(certificate, design, fact, mode):
    keeper = end(design, certificate, mode)
    need(not keeper.who(fact.left.form) <= keeper.who(fact.right.form))


def apart(certificate, design, one, other, mode):
    for at_mode, first, second in list_of_two(design, certificate):
        for here, there in ((first, second), (second, first)):
            need(mode not in (None, at_mode) or not in_form(design, at_mode, here, one) or not in_form(design, at_mode, there, other))


def not_apart(certificate, design, one, other, mode):
    history, name, other_name = tuple_of(certificate, 3)
    keeper = end(design, history, mode)
    need(is_name(name) and is_name(other_name) and name != other_name)
    need(name in keeper.who(one.form) and other_name in keeper.who(other.form))


def bounded(certificate, design, terms, mode):
    for at_mode, inside in a_list(design, certificate):
        if mode in (None, at_mode):
            need(sum(number for one, number in terms if in_form(design, at_mode, inside, one)) <= 0)


def not_bounded(certificate, design, terms, mode):
    history, name = tuple_of(certificate, 2)
    keeper = end(design, history, mode)
    need(is_name(name) and sum(number for one, number in terms if name in keeper.who(one.form)) > 0)


def been(certificate, design, one, other):
    found = rows(certificate, design.modes, [design.fields], flags=True)
    need((design.modes[0], (), False) in found)
    for mode, inside, flag in found:
        need(flag or not in_form(design, mode, inside, one))
        for _, later in steps(design, mode, x=inside):
            need((later.mode, later.inside("x"), flag or "x" in later.who(other.form)) in found)


def not_been(certificate, design, one, other):
    history, name = tuple_of(certificate, 2)
    keepers = along(design, history)
    need(is_name(name) and name in keepers[-1].who(one.form))
    need(not any(name in keeper.who(other.form) for keeper in keepers))


def stays(certificate, design, one):
    for mode, inside in a_list(design, certificate):
        for _, later in steps(design, mode, x=inside):
            need(not in_form(design, mode, inside, one) or "x" in later.who(one.form))


def not_stays(certificate, design, one):
    history, name = tuple_of(certificate, 2)
    keepers = along(design, history)
    need(is_name(name) and len(keepers) > 1)
    need(name in keepers[-2].who(one.form) and name not in keepers[-1].who(one.form))


def comes(certificate, design, one, other):
    for mode, inside in a_list(design, certificate):
        for _, later in steps(design, mode, x=inside):
            if "x" in later.who(one.form) and not in_form(design, mode, inside, one):
                need(in_form(design, mode, inside, other))


def not_comes(certificate, design, one, other):
    history, name = tuple_of(certificate, 2)
    keepers = along(design, history)
    need(is_name(name) and len(keepers) > 1)
    need(name in keepers[-1].who(one.form) and name not in keepers[-2].who(one.form) and name not in keepers[-2].who(other.form))


def need_comparable(first, second):
    need(first.modes == second.modes and sorted(first.view_names) == sorted(second.view_names))
    need(sorted(call[:2] for call in first.calls) == sorted(call[:2] for call in second.calls))


def parts(here, there):
    return here != there


def falls(here, there):
    return there and not here


def shows_the_same(certificate, first, second, differs):
    need_comparable(first, second)
    for mode, inside, other in joint_list(first, second, certificate):
        here, there = at(first, mode, x=inside), at(second, mode, x=other)
        need(all(here.view(name) == there.view(name) for name in first.view_names))
        for deed in deeds(first, ("x",)):
            need(not differs(here.copy().do(*deed), there.copy().do(*deed)))


def need_sign(here, there, word, what, differs):
    """Something that tells two keepers apart, which may be of two designs."""
    need(type(word) is str and word in ("mode", "view", "deed"))
    if word == "mode":
        need(what is None and here.mode != there.mode)
    elif word == "view":
        need(type(what) is str and what in here.design.view_names)
        need(here.view(what) != there.view(what))
    else:
        need_deed(here.design, what)
        need(differs(here.copy().do(*what), there.copy().do(*what)))


def shows_a_difference(certificate, first, second, differs):
    need_comparable(first, second)
    history, word, what = tuple_of(certificate, 3)
    need_sign(end(first, history), end(second, history), word, what, differs)


def loop(keeper, call, names, rule):
    """Whether a loop is granted; the keeper is as it is behind it."""
    if rule == "whole" and not all(keeper.copy().do(call, name) for name in names):
        return False
    for name in names:
        if not keeper.do(call, name) and rule == "stop":
            return False
    return True


def loop_differs(keeper, one, many, names, order, rule):
    looped, called = keeper.copy(), keeper.copy()
    return loop(looped, one, order, rule) != called.do(many, names) or looped.key() != called.key()


def same_loop(certificate, design, one, many, rule):
    for mode, first, second in list_of_two(design, certificate):
        keeper = at(design, mode, x=first, y=second)
        for names in ((), ("x",), ("y",), ("x", "y")):
            for order in itertools.permutations(names):
                need(not loop_differs(keeper, one, many, names, order, rule))


def not_same_loop(certificate, design, one, many, rule):
    history, names = tuple_of(certificate, 2)
    need_names(names)
    need(loop_differs(end(design, history), one, many, names, names, rule))


def disordered(keeper, one, other):
    """Whether two deeds do not commute in a state."""
    first, second = keeper.copy(), keeper.copy()
    granted = first.do(*one) and first.do(*other), second.do(*other) and second.do(*one)
    return not (granted == (True, True) and first.key() == second.key() or granted == (False, False))


def commute(certificate, design, first, second):
    for mode, inside in a_list(design, certificate):
        keeper = at(design, mode, x=inside)
        for one, other in itertools.product(deeds(design, ("x",), only=(first,)), deeds(design, ("x",), only=(second,))):
            need(not disordered(keeper, one, other))


def not_commute(certificate, design, first, second):
    history, argument, other_argument = tuple_of(certificate, 3)
    keeper = end(design, history)
    need_deed(design, (first, argument))
    need_deed(design, (second, other_argument))
    need(disordered(keeper, (first, argument), (second, other_argument)))


def need_alone(design, deed):
    need_deed(design, deed)
    need(deed[1] in (None, "x", (), ("x",)))


def fields(certificate, design, number):
    ways, signs = tuple_of(certificate, 2)
    need(type(ways) is tuple and type(signs) is tuple)
    need(len(ways) > 2 ** (number - 1) or number == 1 and len(ways) == 1)
    need(2 * len(signs) == len(ways) * (len(ways) - 1))
    ends = [end(design, way) for way in ways]
    for way in ways:
        for deed in way:
            need_alone(design, deed)
    need(len({keeper.mode for keeper in ends}) == 1)
    due = [(first, second) for second in range(len(ends)) for first in range(second)]
    for (first, second), sign in zip(due, signs):
        history, word, what = tuple_of(sign, 3)
        need(type(history) is tuple)
        here, there = ends[first].copy(), ends[second].copy()
        for deed in history:
            need_alone(design, deed)
            need(here.do(*deed) and there.do(*deed))
        if word == "deed":
            need_alone(design, what)
        need_sign(here, there, word, what, parts)


def derived(certificate, design, field, expression):
    need(field not in expression.fields)
    for mode, inside in a_list(design, certificate):
        need((field in inside) == in_form(design, mode, inside, expression))


CLAIMS = {
    "always": always, "not always": not_always, "apart": apart, "not apart": not_apart, "bounded": bounded, "not bounded": not_bounded,
    "been": been, "not been": not_been, "stays": stays, "not stays": not_stays, "comes": comes, "not comes": not_comes,
    "alike": lambda paper, first, second: shows_the_same(paper, first, second, parts),
    "stands in": lambda paper, first, second: shows_the_same(paper, first, second, falls),
    "not alike": lambda paper, first, second: shows_a_difference(paper, first, second, parts),
    "not stands in": lambda paper, first, second: shows_a_difference(paper, first, second, falls),
    "same loop": same_loop, "not same loop": not_same_loop, "commute": commute, "not commute": not_commute,
    "fields": fields, "derived": derived,
}
