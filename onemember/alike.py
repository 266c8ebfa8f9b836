"""Whether two designs are alike, and whether one stands in for the other one (point 17)."""

from onemember.designs import check_design
from onemember.errors import NotComparable
from onemember.forms import form_value
from onemember.steps import ALONE, all_moves, beginning, behind, deed_rows, first_ways, is_in, leaf_bits


def alike(first, second):
    """Whether two designs are alike."""
    return parting(first, second) is None


def stands_in(first, second):
    """Whether the first design stands in for the second one."""
    return falling(first, second) is None


def parting(first, second):
    """The first history, with x alone, and the first thing that show that two designs are not alike, or None."""
    return first_sign(first, second, lambda here, there: (here is None) != (there is None))


def falling(first, second):
    """The first history, with x alone, and the first thing that show that one does not stand in, or None."""
    return first_sign(first, second, lambda here, there: here is None and there is not None)


def first_sign(first, second, differs):
    """The first triple (history, word, what), or None.

    The function tells, for the states behind a deed in both designs (None if refused), whether they differ.
    """
    check_design(first)
    check_design(second)
    check_comparable(first, second)
    both = Both(first, second)
    for pair, way in both.ways().items():
        sign = both.sign_at(pair, differs)
        if sign is not None:
            return (way, *sign)
    return None


def check_comparable(first, second):
    """Refuse two designs that can not be compared."""
    if first.modes != second.modes or set(first.view_names) != set(second.view_names):
        raise NotComparable("other modes or views")
    if set([call[:2] for call in first.calls]) != set([call[:2] for call in second.calls]):
        raise NotComparable("other calls")


class Both:
    """Two designs that do the same deeds for x alone; a pair is the states of both, as one tuple."""

    def __init__(self, first, second):
        self._first_moves = all_moves(first)
        second_moves = all_moves(second)
        # The calls of the second design in the order of the first one, so that rows tell the places of both.
        self._second_moves = [second_moves[second.names.index(name)] for name in first.names]
        self._rows = deed_rows(first, ALONE)
        self._views = [(name, view_bits(first, name), view_bits(second, name)) for name in first.view_names]

    def ways(self):
        """For each pair that both designs reach together, the first history to it."""
        start = beginning(ALONE)
        return first_ways(start + start, self._rows, lambda pair, row: self.step(pair, row))

    def step(self, pair, row):
        """The pair behind a deed, or None if it is refused in one of the designs."""
        here, there = self.sides(pair, row)
        return None if here is None or there is None else here + there

    def sides(self, pair, row):
        """The state behind a deed in each design, or None where it is refused."""
        return behind(self._first_moves, pair[:2], row), behind(self._second_moves, pair[2:], row)

    def sign_at(self, pair, differs):
        """The first pair (word, what) that tells the designs apart at these states, or None."""
        mode, inside, other_mode, other_inside = pair
        if mode != other_mode:
            return ("mode", None)
        for name, bits, other_bits in self._views:
            if is_in(bits[mode], inside) != is_in(other_bits[mode], other_inside):
                return ("view", name)
        for row in self._rows:
            here, there = self.sides(pair, row)
            if differs(here, there):
                return ("deed", row[0])
        return None


def view_bits(design, name):
    """For each mode the number of a view whose bits are the places of leaf_bits."""
    table = leaf_bits(design.fields)
    return [form_value(design.view_of(name, mode).form, table) for mode in design.modes]
