"""What several tests use: values of all kinds, and a test case that looks at errors closely."""

import unittest

from onemember import errors
from onemember.designs import Design
from onemember.expressions import Expression, Fact
from onemember.keepers import Hall, Keeper, RosterKeeper
from onemember.members import Change, Members
from onemember.samples import sample_design

BASES = (errors.SetError, errors.StateError, errors.LimitError)


def nested(levels, around, inmost):
    """A value in so many levels, all told."""
    value = inmost
    for _ in range(levels - 1):
        value = around(value)
    return value


def plain_values():
    """Values of every kind that has nothing to do with the program."""
    return [
        0, 1, -1, 7, 10 ** 39, True, False, None,
        "", " ", "\n", "A", "Ann", "1a", "ninechars", "a b", "a|b", "a  |  b", "a <= b", "a-b", "a_b", "%", "ann ",
        "~" * 8000, "(" * 4000 + ")" * 4000,
        b"", b"a", b"ann", [], ["ann"], [[]], (), ("ann", "bob"), ("|", "a"), ("|", "a", "b", "c"), ((),),
        {}, {"ann": 1}, {"a": [1]}, set(), {"ann"}, {1, 2}, frozenset(("a",)),
        nested(30, lambda value: [value], 1), nested(30, lambda value: (value,), "a"),
        nested(30, lambda value: {"a": value}, None), nested(30, lambda value: {"a": (value,)}, {"a"})["a"],
        nested(30, lambda value: ("|", "a", value), b"a"), nested(30, lambda value: ["|", value, "a"], "a"),
    ]


def own_objects():
    """Objects of the program."""
    return [
        Members(), Members("ann", "bob"), Change(Members(), Members()), Change(Members("ann"), Members("bob")),
        Expression("a"), Expression(("|", "a", "given")), Fact(Expression("a"), Expression("b")),
        errors.NotMembers(5), errors.Busy(),
        sample_design(), Design(("a",), ("m",), (), ()),
        Keeper(sample_design()), RosterKeeper(sample_design(), Members("ann")), Hall(),
    ]


def strange_values(*good):
    """Values of all kinds, but for those of the classes named."""
    return [value for value in plain_values() + own_objects() if not isinstance(value, good)]


def balanced(leaves):
    """A form with so many leaves, at the least depth."""
    if leaves == 1:
        return "a"
    return ("|", balanced(leaves // 2), balanced(leaves - leaves // 2))


def chain(levels, inmost="a"):
    """A form with so many levels, one more leaf on each."""
    return nested(levels, lambda form: ("-", form, "b"), inmost)


def chain_text(brackets):
    """The text of a form with so many brackets within one another, all open at the beginning."""
    return "(" * brackets + "a | b" + ") | b" * brackets


class CloseCase(unittest.TestCase):
    """A test case that looks at the class, the base class and the attributes of an error."""

    def refused(self, kind, told, act, *args, **named):
        """Call act, which has to raise just this kind of error, with these attributes."""
        before = snapshot(args, named)
        try:
            act(*args, **named)
        except Exception as error:
            self.assertIs(error.__class__, kind, f"{kind.__name__} was due")
            found = error
        else:
            self.fail(f"{kind.__name__} was not raised")
        self.assertEqual([kind.__base__], [base for base in BASES if isinstance(found, base)])
        self.assertEqual(vars(found).keys(), told.keys())
        for name, value in told.items():
            if name in ("index", "limit", "found", "name"):
                self.same(getattr(found, name), value)
            else:
                self.assertIs(getattr(found, name), value)
        self.assertEqual(snapshot(args, named), before)

    def same(self, found, due):
        """Both are equal, and of the same kind: True is not 1 here, and no list is a tuple."""
        self.assertEqual(found, due)
        self.assertIs(found.__class__, due.__class__)


def snapshot(args, named):
    """What was passed, as a text that shows every change of it."""
    return [shown(value) for value in list(args) + list(named.values())]


def shown(value):
    """A value in which objects of the program stand as their class and their text."""
    if isinstance(value, (Members, Expression, Fact)):
        return (value.__class__.__name__, str(value))
    if isinstance(value, Change):
        return ("Change", str(value.came), str(value.went))
    if isinstance(value, Design):
        return ("Design", str(value))
    if isinstance(value, Keeper):
        return picture(value)
    if isinstance(value, Hall):
        return [(name, picture(value[name])) for name in value]
    if isinstance(value, tuple):
        return tuple(shown(one) for one in value)
    return repr(value)[:2000]


def told(state):
    """The state of a keeper, with the names of its sets."""
    return (state[0], tuple((field, members.names) for field, members in state[1]))


def picture(keeper):
    """All that can be seen of a keeper, also what undo brings back."""
    design = keeper.design
    seen = [keeper.__class__.__name__, str(design), told(keeper.state), keeper.mode, keeper.busy, len(keeper)]
    seen.append([(call, shown(argument)) for call, argument in keeper.log])
    seen.append([(field, keeper.members(field).names) for field in design.fields])
    seen.append([(view, keeper.shown(view).names) for view in design.view_names])
    seen.append([str(fact) for fact in keeper.facts])
    if not keeper.busy:
        seen.append(pasts(keeper))
    return seen


def pasts(keeper):
    """The states that undo brings back, one after another."""
    states = []
    with keeper.trial():
        keeper.facts = ()
        while len(keeper):
            changes = keeper.undo()
            states.append((told(keeper.state), [(view, shown(change)) for view, change in changes]))
    return states


def who(form, sets, given):
    """The names in a form, found with Python's own sets, as a second opinion."""
    if form in ("given", "none"):
        return set(given) if form == "given" else set()
    if isinstance(form, str):
        return set(sets[form])
    sign, left, right = form
    one, other = who(left, sets, given), who(right, sets, given)
    return {"|": one | other, "&": one & other, "-": one - other, "^": one ^ other}[sign]


def any_form(chance, fields, most):
    """A form with at most so many levels, of these fields, given and none."""
    if most == 1 or chance.random() < 0.2:
        return chance.choice(list(fields) + ["given", "none"])
    sign = chance.choice("|&-^")
    return (sign, any_form(chance, fields, most - 1), any_form(chance, fields, most - 1))
