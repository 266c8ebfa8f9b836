"""Kinds of plain values: integers, and tuples of a length (point 3)."""


def is_integer(value):
    """Whether a value is an integer: True and False are none."""
    return isinstance(value, int) and not isinstance(value, bool)


def is_tuple_of(value, many):
    """Whether a value is a tuple with so many elements."""
    return isinstance(value, tuple) and len(value) == many
