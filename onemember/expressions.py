"""Expressions of fields, facts between two of them, and when two have the same members (points 7 and 8)."""

from onemember.errors import InvalidForm, InvalidNames, InvalidSets, InvalidText
from onemember.errors import NotAFact, NotAnExpression, TooManyFields, UnknownField
from onemember.forms import GIVEN, NONE, check_depth, check_leaves, form_fields, form_leaves, form_meets
from onemember.forms import form_size, form_text, form_value, is_field, read_counted
from onemember.members import Members, check_members
from onemember.names import choices, wrong_or_twice_at

MOST_COMPARED = 8


class Expression:
    """Who is in a field, is given, or is in what signs make of these."""

    def __init__(self, form):
        size = form_size(form)
        if size is None:
            raise InvalidForm(form)
        leaves, depth = size
        check_leaves(leaves)
        check_depth(depth)
        self._form = form
        self._leaves = leaves
        self._depth = depth
        self._fields = form_fields(form)
        self._has_given = GIVEN in form_leaves(form)

    @staticmethod
    def read(text):
        """The expression with this text."""
        counted = read_counted(text)
        if counted is None:
            raise InvalidText(text)
        form, leaves = counted
        # Ahead of the levels, and so that no form of a thousand levels is passed on.
        check_leaves(leaves)
        return Expression(form)

    @property
    def form(self):
        """The form: a string or a triple."""
        return self._form

    @property
    def leaves(self):
        """The number of the strings in the form that are not signs."""
        return self._leaves

    @property
    def depth(self):
        """The number of levels of the form."""
        return self._depth

    @property
    def fields(self):
        """The ascending tuple of the names of fields."""
        return self._fields

    @property
    def has_given(self):
        """Whether given is in the form."""
        return self._has_given

    def __str__(self):
        return str(form_text(self._form))

    def __repr__(self):
        return f"Expression({self._leaves} leaves)"

    def __eq__(self, other):
        return isinstance(other, Expression) and self._form == other.form

    def __or__(self, other):
        return with_sign("|", self, other)

    def __and__(self, other):
        return with_sign("&", self, other)

    def __sub__(self, other):
        return with_sign("-", self, other)

    def __xor__(self, other):
        return with_sign("^", self, other)

    def within(self, other):
        """The Fact that everybody in this expression is in the other one."""
        return Fact(self, other)

    def of(self, sets, *, given=None):
        """The Members of the expression, for sets of members, told as pairs (field, Members)."""
        return form_value(self._form, all_sets(self._fields, sets, given))

    def meets(self, inside, *, given=False):
        """Whether somebody who is in just the fields inside, and given or not, is in the expression."""
        if not isinstance(inside, tuple):
            raise InvalidNames(None)
        at = wrong_or_twice_at(inside)
        if at is not None:
            raise InvalidNames(at)
        return form_meets(self._form, inside, given is True)


class Fact:
    """Everybody in the left expression is in the right one."""

    def __init__(self, left, right):
        check_expression(left)
        check_expression(right)
        self._left = left
        self._right = right

    @staticmethod
    def read(text):
        """The fact with this text."""
        if not isinstance(text, str):
            raise InvalidText(text)
        left_text, _, right_text = text.partition(" <= ")
        left, right = read_counted(left_text), read_counted(right_text)
        if left is None or right is None:
            raise InvalidText(text)
        # The leaves of both sides ahead of the levels of any, which the two expressions look for.
        check_leaves(left[1])
        check_leaves(right[1])
        return Fact(Expression(left[0]), Expression(right[0]))

    @property
    def left(self):
        """The Expression on the left side."""
        return self._left

    @property
    def right(self):
        """The Expression on the right side."""
        return self._right

    @property
    def form(self):
        """The pair of the forms of both sides."""
        return (self._left.form, self._right.form)

    @property
    def fields(self):
        """The ascending tuple of the names of fields in the two sides together."""
        return fields_of_two(self._left, self._right)

    @property
    def has_given(self):
        """Whether given is in one of the sides."""
        return self._left.has_given or self._right.has_given

    def __str__(self):
        return f"{self._left} <= {self._right}"

    def __repr__(self):
        return f"Fact({self._left} <= {self._right})"

    def __eq__(self, other):
        return isinstance(other, Fact) and self._left == other.left and self._right == other.right

    def is_kept(self, sets, *, given=None):
        """Whether the fact holds, for sets of members, told as pairs (field, Members)."""
        table = all_sets(self.fields, sets, given)
        return form_value(self._left.form, table) <= form_value(self._right.form, table)


def same_sets(one, other):
    """Whether two expressions have the same members for all sets."""
    return differing(one, other) is None


def differing(one, other):
    """The first pair (inside, given) for somebody in just one of two expressions, or None."""
    check_expression(one)
    check_expression(other)
    fields = fields_of_two(one, other)
    if len(fields) > MOST_COMPARED:
        raise TooManyFields(MOST_COMPARED)
    for inside in choices(fields):
        for given in (False, True):
            if form_meets(one.form, inside, given) != form_meets(other.form, inside, given):
                return (inside, given)
    return None


def fields_of_two(one, other):
    """The ascending tuple of the names of fields in two expressions together."""
    return tuple(sorted(set(one.fields + other.fields)))


def check_expression(value):
    """Refuse a value that is not an Expression."""
    if not isinstance(value, Expression):
        raise NotAnExpression(value)


def check_fact(value):
    """Refuse a value that is not a Fact."""
    if not isinstance(value, Fact):
        raise NotAFact(value)


def with_sign(sign, one, other):
    """The expression of two with a sign."""
    check_expression(other)
    return Expression((sign, one.form, other.form))


def all_sets(fields, sets, given):
    """The Members for each leaf, as a dict, if the sets have all these fields."""
    table = field_sets(sets)
    if given is not None:
        check_members(given)
    for field in fields:
        if field not in table:
            raise UnknownField(field)
    table[NONE] = Members()
    table[GIVEN] = Members() if given is None else given
    return table


def field_sets(sets):
    """The pairs (field, Members) as a dict."""
    if not isinstance(sets, tuple):
        raise InvalidSets(None)
    table = {}
    for at, pair in enumerate(sets):
        if not is_field_set(pair) or pair[0] in table:
            raise InvalidSets(at)
        table[pair[0]] = pair[1]
    return table


def is_field_set(value):
    """Whether a value is a pair (field, Members)."""
    if not isinstance(value, tuple) or len(value) != 2:
        return False
    return is_field(value[0]) and isinstance(value[1], Members)
