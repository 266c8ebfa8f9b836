"""Whether two designs are alike, and whether one stands in for the other one (point 17)."""

from onemember.designs import check_design
from onemember.errors import NotComparable
from onemember.forms import form_value
from onemember.steps import ALONE, all_moves, behind, deed_rows, first_ways, is_closed, is_in, leaf_bits

# The states of two designs at the beginning, as told by Both.
AT_FIRST = (0, 0, 0, 0)


def alike(first, second):
    """Whether two designs are alike."""
    return parting(first, second) is None


def stands_in(first, second):
    """Whether the first design stands in for the second one."""
    return falling(first, second) is None


def parting(first, second):
    """The first history, with x alone, and the first thing that show that two designs are not alike, or None."""
    return first_sign(first, second, is_parted)


def falling(first, second):
    """The first history, with x alone, and the first thing that show that one does not stand in, or None."""
    return first_sign(first, second, is_fallen)


def is_parted(here, there):
    """Whether just one of two designs grants a deed, of which the states behind it are told, None if refused."""
    return (here is None) != (there is None)


def is_fallen(here, there):
    """Whether the second design grants a deed that the first one refuses."""
    return here is None and there is not None


def first_sign(first, second, differs):
    """The first triple (history, word, what), or None, where differs is is_parted or is_fallen."""
    check_design(first)
    check_design(second)
    if not are_comparable(first, second):
        raise NotComparable("other modes, views or calls")
    return Both(first, second).first_sign(AT_FIRST, differs)


def are_comparable(first, second):
    """Whether two designs can be compared."""
    if first.modes != second.modes or set(first.view_names) != set(second.view_names):
        return False
    return set([call[:2] for call in first.calls]) == set([call[:2] for call in second.calls])


class Both:
    """Two designs that do the same deeds for x alone; a pair is the states of both, as one tuple."""

    def __init__(self, first, second):
        self._first_moves = all_moves(first)
        second_moves = all_moves(second)
        # The calls of the second design in the order of the first one, so that rows tell the places of both.
        self._second_moves = [second_moves[second.names.index(name)] for name in first.names]
        self._rows = deed_rows(first, ALONE)
        self._views = [(name, view_bits(first, name), view_bits(second, name)) for name in first.view_names]

    def first_sign(self, start, differs):
        """The first triple (history, word, what) behind a pair, with the deeds that lead on from it, or None."""
        for pair, way in self.ways(start).items():
            sign = self.sign_at(pair, differs)
            if sign is not None:
                return (way, *sign)
        return None

    def ways(self, start):
        """For each pair that both designs reach together from a pair, the first history to it."""
        return first_ways(start, self._rows, lambda pair, row: self.step(pair, row))

    def has_all_behind(self, pairs):
        """Whether there is in a dict, with each of its pairs, each pair that the deeds lead to."""
        return is_closed(pairs, self._rows, lambda pair, row: self.step(pair, row))

    def step(self, pair, row):
        """The pair behind a deed, or None if it is refused in one of the designs."""
        here, there = self.sides(pair, row)
        return None if here is None or there is None else here + there

    def sides(self, pair, row):
        """The state behind a deed in each design, or None where it is refused."""
        return behind(self._first_moves, pair[:2], row), behind(self._second_moves, pair[2:], row)

    def sign_at(self, pair, differs):
        """The first pair (word, what) that tells the designs apart at these states, or None."""
        mode, inside, other_mode, other_inside = pair
        if mode != other_mode:
            return ("mode", None)
        for name, bits, other_bits in self._views:
            if is_in(bits[mode], inside) != is_in(other_bits[mode], other_inside):
                return ("view", name)
        for row in self._rows:
            here, there = self.sides(pair, row)
            if differs(here, there):
                return ("deed", row[0])
        return None


def view_bits(design, name):
    """For each mode the number of a view whose bits are the places of leaf_bits."""
    table = leaf_bits(design.fields)
    return [form_value(design.view_of(name, mode).form, table) for mode in design.modes]
