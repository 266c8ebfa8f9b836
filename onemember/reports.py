"""Reports for people to read: the nodes of a design, and the sizes of the fields of a keeper."""

from onemember.deciding import nodes
from onemember.errors import NotAKeeper
from onemember.keepers import Keeper


def node_report(design):
    """A line for each node: the mode, the number of fields, and the fields."""
    found = nodes(design)
    wide = max([len(mode) for mode in design.modes])
    return "\n".join([f"{mode.ljust(wide)} {len(inside):>2} {text_or_dash(inside)}" for mode, inside in found])


def text_or_dash(names):
    """Names with single spaces between, or a dash if there are none."""
    return " ".join(names) if names else "-"


def size_report(keeper):
    """A line for each field: its name, the number of its members, and their share of all names in percent."""
    if not isinstance(keeper, Keeper):
        raise NotAKeeper(keeper)
    _, sets = keeper.state
    everybody = len(set([name for _, members in sets for name in members]))
    wide = max([len(field) for field, _ in sets])
    sizes = [(field.rjust(wide), len(members)) for field, members in sets]
    return "\n".join([f"{field}: {size} {share(size, everybody)} percent" for field, size in sizes])


def share(some, everybody):
    """A number in percent of another one, rounded down to one figure behind the point; 0.0 of nobody."""
    whole, tenth = divmod(1000 * some // everybody, 10) if everybody else (0, 0)
    return f"{whole}.{tenth}"
