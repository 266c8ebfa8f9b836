"""Forms of expressions: what is one, how large it is, its text, its fields, and who is in it (point 7)."""

from onemember.errors import TooManyLeaves, TooManyLevels
from onemember.limits import MOST_DEPTH, MOST_LEAVES
from onemember.names import is_name

SIGNS = ("|", "&", "-", "^")
GIVEN = "given"
NONE = "none"


def is_field(value):
    """Whether a value, whatever it is, can be the name of a field."""
    return is_name(value) and value not in (GIVEN, NONE)


def form_size(value):
    """The pair (leaves, depth) if the value is a form, however large, otherwise None."""
    leaves = depth = 0
    parts = [(value, 1, 1)]
    while parts:
        part, times, level = parts.pop()
        depth = level if level > depth else depth
        if is_name(part):
            leaves = leaves + times
        elif not is_triple(part):
            return None
        elif is_triple(part[1]) and part[1] == part[2]:
            # A tuple that holds the same one twice, on each of thirty levels, has too many leaves to walk them.
            parts.append((part[1], times + times, level + 1))
        else:
            parts.extend([(side, times, level + 1) for side in part[1:]])
    return leaves, depth


def is_triple(value):
    """Whether a value is a triple that begins with a sign."""
    return isinstance(value, tuple) and len(value) == 3 and isinstance(value[0], str) and value[0] in SIGNS


def is_form_of(value, names):
    """Whether a value is a form within the limits of which each leaf is one of these names."""
    leaves = 0
    parts = [(value, 1)]
    while parts:
        part, level = parts.pop()
        # Looked at as it goes, so that a form of any size is left as soon as it is too large.
        if level > MOST_DEPTH:
            return False
        if is_triple(part):
            parts.extend([(side, level + 1) for side in part[1:]])
        elif part in names and leaves < MOST_LEAVES:
            leaves = leaves + 1
        else:
            return False
    return True


def check_leaves(leaves):
    """Refuse so many leaves if they are too many."""
    if leaves > MOST_LEAVES:
        raise TooManyLeaves(MOST_LEAVES)


def check_depth(depth):
    """Refuse so many levels if they are too many."""
    if depth > MOST_DEPTH:
        raise TooManyLevels(MOST_DEPTH)


def form_text(form):
    """The text of a form."""
    if isinstance(form, str):
        return form
    sign, left, right = form
    return f"{side_text(left)} {sign} {side_text(right)}"


def side_text(form):
    """The text of a form inside another one."""
    if isinstance(form, str):
        return form
    return f"({form_text(form)})"


def read_counted(text):
    """The pair (form, leaves) if the value is the text of a form, however large, otherwise None."""
    if not isinstance(text, str):
        return None
    # Each bracket becomes a word; a space too many or too few makes a word that is none.
    words = text.replace("(", "( ").replace(")", " )").split(" ")
    # Brackets may be nested deeper than calls can be, so this keeps the open ones in a list.
    opened = [[]]
    for word in words:
        if not take_word(opened, word):
            return None
    # Where a bracket is still open, its form is missing in the outermost parts.
    outermost = opened[0]
    if len(outermost) == 3:
        return joined(outermost)
    if len(outermost) == 1 and isinstance(outermost[0][0], str):
        return outermost[0]
    return None


def take_word(opened, word):
    """Put a word into the innermost of the opened brackets; whether it can stand there."""
    innermost = opened[-1]
    if word == ")" and len(innermost) == 3 and len(opened) > 1:
        opened.pop()
        opened[-1].append(joined(innermost))
    elif len(innermost) == 1 and word in SIGNS:
        innermost.append(word)
    elif len(innermost) in (0, 2) and word == "(":
        opened.append([])
    elif len(innermost) in (0, 2) and is_name(word):
        innermost.append((word, 1))
    else:
        return False
    return True


def joined(parts):
    """The pair (form, leaves) of two such pairs with a sign between them."""
    (left, left_leaves), sign, (right, right_leaves) = parts
    return (sign, left, right), left_leaves + right_leaves


def form_leaves(form):
    """The list of the leaves of a form, from left to right."""
    if isinstance(form, str):
        return [form]
    return form_leaves(form[1]) + form_leaves(form[2])


def form_fields(form):
    """The ascending tuple of the names of fields in a form."""
    leaves = form_leaves(form)
    return tuple(sorted(set([leaf for leaf in leaves if is_field(leaf)])))


def form_meets(form, inside, given):
    """Whether somebody who is in just the fields inside, and given or not, is in a form."""
    if form == NONE:
        return False
    if form == GIVEN:
        return given
    if isinstance(form, str):
        return form in inside
    sign, left, right = form
    one = form_meets(left, inside, given)
    other = form_meets(right, inside, given)
    if sign == "|":
        return one or other
    if sign == "&":
        return one and other
    if sign == "-":
        return one and not other
    return one != other


def form_value(form, table):
    """What a form comes to, if the table has Members for each leaf, or for each leaf a number as a set of bits."""
    if isinstance(form, str):
        return table[form]
    sign, left, right = form
    one = form_value(left, table)
    other = form_value(right, table)
    if sign == "|":
        return one | other
    if sign == "&":
        return one & other
    if sign == "-":
        # Numbers differ as sets do only if all bits of the second one are in the first one.
        return one - (one & other)
    return one ^ other


def form_renamed(form, names):
    """The form with other names, where the dict has the new one for a leaf."""
    if isinstance(form, str):
        return names.get(form, form)
    sign, left, right = form
    return (sign, form_renamed(left, names), form_renamed(right, names))
