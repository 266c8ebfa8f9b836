"""Whether claims are true, by plain listings of keepers: those of two members, or pairs of keepers of one."""

import itertools

from onemember.designs import Design
from onemember.expressions import Expression, Fact
from tests.plain import Plain, deeds, plain_ways
from tests.plain_checker import disordered, loop_differs
from tests.test_alike import falls, parts, plain_sign
from tests.test_least import plain_classes

NAMES = ("x", "y")


def is_true(claim):
    """Whether a claim of a right form is true."""
    word, design, *told = claim[0], Design.read(claim[1]), *claim[2:]
    if word.startswith("not "):
        return not TRUTHS[word[4:]](design, *told)
    return TRUTHS[word](design, *told)


def keepers(design, mode=None):
    """All keepers with the two members (in a mode)."""
    return [keeper for _, keeper in plain_ways(design, NAMES) if mode in (None, keeper.mode)]


def who(keeper, text):
    return keeper.who(Expression.read(text).form)


def always(design, fact, mode):
    fact = Fact.read(fact)
    return all(keeper.who(fact.left.form) <= keeper.who(fact.right.form) for keeper in keepers(design, mode))


def apart(design, one, other, mode):
    return not any(("x" in who(keeper, one) and "y" in who(keeper, other)) for keeper in keepers(design, mode))


def bounded(design, terms, mode):
    return all(sum(number * len(who(keeper, text)) for text, number in terms) <= 0 for keeper in keepers(design, mode))


def been(design, one, other):
    """No x is in the first expression on a way of keepers in which it has not been in the second one."""
    found = [Plain(design)]
    seen = {found[0].key()}
    for keeper in found:
        if "x" in who(keeper, one):
            return False
        for later in behind(design, keeper):
            if later.key() not in seen and "x" not in who(later, other):
                seen.add(later.key())
                found.append(later)
    return True


def behind(design, keeper):
    """The keepers behind the deeds that are granted."""
    for deed in deeds(design, NAMES):
        later = keeper.copy()
        if later.do(*deed):
            yield later


def stays(design, one):
    return all(who(keeper, one) <= who(later, one) for keeper in keepers(design) for later in behind(design, keeper))


def comes(design, one, other):
    return all(who(later, one) - who(keeper, one) <= who(keeper, other) for keeper in keepers(design) for later in behind(design, keeper))


def alike(design, second):
    return plain_sign(design, Design.read(second), ("x",), parts) is None


def stands_in(design, second):
    return plain_sign(design, Design.read(second), ("x",), falls) is None


def same_loop(design, one, many, rule):
    sets = ((), ("x",), ("x", "y"), ("y",))
    return not any(loop_differs(keeper, one, many, names, names, rule) for keeper in keepers(design) for names in sets)


def commute(design, first, second):
    pairs = list(itertools.product(deeds(design, NAMES, only=(first,)), deeds(design, NAMES, only=(second,))))
    return not any(disordered(keeper, one, other) for keeper in keepers(design) for one, other in pairs)


def fields(design, number):
    return number == 1 or max(len(found) for found in plain_classes(design)) > 2 ** (number - 1)


def derived(design, field, text):
    return field not in Expression.read(text).fields and all(keeper.sets[field] == who(keeper, text) for keeper in keepers(design))


TRUTHS = {
    "always": always, "apart": apart, "bounded": bounded, "been": been, "stays": stays, "comes": comes, "alike": alike,
    "stands in": stands_in, "same loop": same_loop, "commute": commute, "fields": fields, "derived": derived,
}
