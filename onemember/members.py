"""Sets of members, told by names, and the changes from one such set to another (point 6)."""

from onemember.errors import InvalidNames, InvalidText, NotAChange, NotComparable, NotMembers
from onemember.names import wrong_at


class Members:
    """A set of names that never changes."""

    def __init__(self, *names):
        at = wrong_at(names)
        if at is not None:
            raise InvalidNames(at)
        self._names = tuple(sorted(set(names)))
        self._table = {name: True for name in self._names}

    @staticmethod
    def from_names(names):
        """The members with these names, a tuple."""
        if not isinstance(names, tuple):
            raise InvalidNames(None)
        return Members(*names)

    @staticmethod
    def read(text):
        """The members with this text."""
        if not isinstance(text, str):
            raise InvalidText(text)
        names = text.split(" ") if text else []
        if wrong_at(names) is not None:
            raise InvalidText(text)
        members = Members(*names)
        # Names out of order, or twice, are names of Members, but not their text.
        if str(members) != text:
            raise InvalidText(text)
        return members

    @property
    def names(self):
        """The ascending tuple of the names."""
        return self._names

    def __str__(self):
        return " ".join(self._names)

    def __repr__(self):
        return f"Members({len(self._names)})"

    def __len__(self):
        return len(self._names)

    def __iter__(self):
        return iter(self._names)

    def __contains__(self, value):
        return isinstance(value, str) and value in self._table

    def __eq__(self, other):
        return isinstance(other, Members) and self._names == other.names

    def __or__(self, other):
        check_members(other)
        return Members.from_names(self._names + other.names)

    def __and__(self, other):
        check_members(other)
        return Members.from_names(tuple([name for name in self._names if name in other]))

    def __sub__(self, other):
        check_members(other)
        return Members.from_names(tuple([name for name in self._names if name not in other]))

    def __xor__(self, other):
        return (self - other) | (other - self)

    def __ior__(self, other):
        return self | other

    def __iand__(self, other):
        return self & other

    def __isub__(self, other):
        return self - other

    def __ixor__(self, other):
        return self ^ other

    def __le__(self, other):
        check_members(other)
        return all([name in other for name in self._names])

    def __lt__(self, other):
        return self <= other and len(self) < len(other)

    def __ge__(self, other):
        check_members(other)
        return other <= self

    def __gt__(self, other):
        check_members(other)
        return other < self

    def __add__(self, other):
        """Those who are there behind a Change."""
        check_change(other)
        return (self - other.went) | other.came


class Change:
    """Members who came and Members who went, nobody in both."""

    def __init__(self, came, went):
        check_members(came)
        check_members(went)
        if came & went:
            raise NotComparable("somebody came and went")
        self._came = came
        self._went = went

    @staticmethod
    def between(before, after):
        """The Change that leads from the first Members to the second ones."""
        check_members(before)
        check_members(after)
        return Change(after - before, before - after)

    @property
    def came(self):
        """The Members who came."""
        return self._came

    @property
    def went(self):
        """The Members who went."""
        return self._went

    def __repr__(self):
        return f"Change(+{len(self._came)}, -{len(self._went)})"

    def __bool__(self):
        return bool(self._came) or bool(self._went)

    def __abs__(self):
        return len(self._came) + len(self._went)

    def __eq__(self, other):
        return isinstance(other, Change) and self._came == other.came and self._went == other.went

    def __neg__(self):
        return Change(self._went, self._came)

    def __add__(self, other):
        """The Change that does both, one after another."""
        check_change(other)
        came = (self._came - other.went) | other.came
        went = (self._went - other.came) | other.went
        return Change(came, went)


def check_members(value):
    """Refuse a value that is not Members."""
    if not isinstance(value, Members):
        raise NotMembers(value)


def check_change(value):
    """Refuse a value that is not a Change."""
    if not isinstance(value, Change):
        raise NotAChange(value)
