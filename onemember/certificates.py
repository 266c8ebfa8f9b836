"""Claims with the certificates that the checker accepts: what is asked is so, or it is not."""

from onemember.alike import Both, falling, parting
from onemember.deciding import been, bits_of, breaking, comes, growing, meeting, nodes, stays, way_to
from onemember.least import classes, fewest, first_apart
from onemember.lists import joint_list, list_of, past_list
from onemember.loops import loop_parting
from onemember.needless import derived
from onemember.order import disorder
from onemember.steps import TOGETHER, reached


def certify_always(fact, design, *, mode=None):
    """The claim that a fact holds for ever, or that it does not."""
    way = breaking(fact, design, mode=mode)
    told = (str(design), str(fact), mode)
    return (("always", *told), nodes(design)) if way is None else (("not always", *told), way)


def certify_apart(one, other, design, *, mode=None):
    """The claim that two expressions are apart, or that they are not."""
    way = meeting(one, other, design, mode=mode)
    told = (str(design), str(one), str(other), mode)
    return (("apart", *told), nodes_of_two(design)) if way is None else (("not apart", *told), (way, *TOGETHER))


def certify_bounded(terms, design, *, mode=None):
    """The claim that terms are bounded, or that they are not."""
    way = growing(terms, design, mode=mode)
    told = (str(design), tuple([(str(expression), number) for expression, number in terms]), mode)
    return (("bounded", *told), nodes(design)) if way is None else (("not bounded", *told), (way, "x"))


def certify_been(one, other, design):
    """The claim that whoever is in one has been in other, or that this is not so."""
    way = been(one, other, design)
    told = (str(design), str(one), str(other))
    if way is None:
        return (("been", *told), past_list(design, bits_of(other, design)))
    return (("not been", *told), (way, "x"))


def certify_stays(one, design):
    """The claim that whoever is in one stays in it, or that this is not so."""
    way = stays(one, design)
    told = (str(design), str(one))
    return (("stays", *told), nodes(design)) if way is None else (("not stays", *told), (way, "x"))


def certify_comes(one, other, design):
    """The claim that whoever comes into one was in other right before it, or that this is not so."""
    way = comes(one, other, design)
    told = (str(design), str(one), str(other))
    return (("comes", *told), nodes(design)) if way is None else (("not comes", *told), (way, "x"))


def certify_alike(first, second):
    """The claim that two designs are alike, or that they are not."""
    sign = parting(first, second)
    told = (str(first), str(second))
    return (("alike", *told), joint_list(first, second)) if sign is None else (("not alike", *told), sign)


def certify_stands_in(first, second):
    """The claim that the first design stands in for the second one, or that it does not."""
    sign = falling(first, second)
    told = (str(first), str(second))
    return (("stands in", *told), joint_list(first, second)) if sign is None else (("not stands in", *told), sign)


def certify_loop(design, one, many, *, rule="stop"):
    """The claim that a loop of one is the same as many, or that it is not."""
    found = loop_parting(design, one, many, rule=rule)
    told = (str(design), one, many, rule)
    return (("same loop", *told), nodes_of_two(design)) if found is None else (("not same loop", *told), found)


def certify_commute(design, first, second):
    """The claim that two calls commute, or that they do not."""
    found = disorder(design, first, second)
    told = (str(design), first, second)
    return (("commute", *told), nodes(design)) if found is None else (("not commute", *told), found)


def certify_fields(design):
    """The claim that no design that is alike has fewer fields than the least one."""
    many = fewest(design)
    mode, insides = most_classes(design)
    # One class more than one field less can tell.
    some = insides[:(1 << (many - 1)) + 1]
    ways = tuple([way_to(design, mode, inside) for inside in some])
    both = Both(design, design)
    signs = [first_apart(both, design, mode, one, some[at]) for at in range(len(some)) for one in some[:at]]
    return (("fields", str(design), many), (ways, tuple(signs)))


def certify_derived(design, field):
    """The claim that a field is derived, with an expression of the other ones, or None if it is not."""
    expression = derived(design, field)
    return None if expression is None else (("derived", str(design), field, str(expression)), nodes(design))


def nodes_of_two(design):
    """The list of two of all states of two members."""
    return list_of(design, TOGETHER, list(reached(design, TOGETHER)))


def most_classes(design):
    """The first mode that has the most classes, and the fields of one node of each of them."""
    found = classes(design)
    many = [len(groups) for groups in found]
    place = many.index(max([len(groups) for groups in found]))
    return design.modes[place], [group[0] for group in found[place]]
