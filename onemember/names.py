"""Names: strings of one to eight lower-case letters and digits, the first one a letter (point 6)."""

LONGEST_NAME = 8


def is_name(value):
    """Whether a value, whatever it is, is a name."""
    if not isinstance(value, str) or len(value) > LONGEST_NAME:
        return False
    # Letters of other alphabets are letters for isalnum, too; no signs at all are not.
    if not value.isascii() or not value.isalnum():
        return False
    return value[0].isalpha() and value == value.lower()


def wrong_at(values):
    """The place of the first value that is no name, or None."""
    for at, value in enumerate(values):
        if not is_name(value):
            return at
    return None


def wrong_or_twice_at(values):
    """The place of the first value that is no name, or that is a name ahead of it again, or None."""
    seen = {}
    for at, value in enumerate(values):
        if not is_name(value) or value in seen:
            return at
        seen[value] = True
    return None


def choices(names):
    """All ascending tuples of some of these ascending names, in Python's order."""
    if not names:
        return [()]
    later = choices(names[1:])
    return [()] + [(names[0], *choice) for choice in later] + later[1:]
