"""What the claims of the checker tell; in what is no claim, whatever it is, nothing is raised."""

from onemember.designs import Design
from onemember.errors import LimitError, SetError
from onemember.expressions import Expression, Fact
from onemember.kinds import is_integer, is_tuple_of
from onemember.limits import MOST_FIELDS, MOST_TERMS
from onemember.loops import RULES
from onemember.shapes import MANY, ONE

# For each word, what stands in its claim behind the word and the text of the design; the same with "not ".
PARTS = {
    "always": ("fact", "modes"),
    "apart": ("expression", "expression", "modes"),
    "bounded": ("terms", "modes"),
    "been": ("expression", "expression"),
    "stays": ("expression",),
    "comes": ("expression", "expression"),
    "alike": ("design",),
    "stands in": ("design",),
    "same loop": ("one", "many", "rule"),
    "commute": ("call", "call"),
    "fields": ("number",),
    "derived": ("field", "expression"),
}


def read_claim(claim):
    """The triple (word, design, parts) that a claim tells, or None if it is no claim."""
    if not isinstance(claim, tuple) or len(claim) < 2 or not isinstance(claim[0], str):
        return None
    kinds = PARTS.get(claim[0].removeprefix("not "))
    if kinds is None or len(claim) != len(kinds) + 2:
        return None
    design = read_design(claim[1], None)
    if design is None:
        return None
    parts = [read_part(kind, value, design) for kind, value in zip(kinds, claim[2:])]
    return None if any([part is None for part in parts]) else (claim[0], design, parts)


def read_design(value, _):
    """The design with this text, or None."""
    try:
        return Design.read(value)
    except SetError:
        return None


def read_expression(value, design):
    """The expression with this text, of fields of the design and without given, or None."""
    try:
        expression = Expression.read(value)
    except (SetError, LimitError):
        return None
    return expression if is_of(expression, design) else None


def read_fact(value, design):
    """The fact with this text, of fields of the design and without given, or None."""
    try:
        fact = Fact.read(value)
    except (SetError, LimitError):
        return None
    return fact if is_of(fact, design) else None


def is_of(told, design):
    """Whether an expression or a fact has fields of the design alone, and not given."""
    return not told.has_given and all([field in design.fields for field in told.fields])


def read_terms(value, design):
    """The terms that are told by texts of expressions, or None."""
    if not isinstance(value, tuple) or not 1 <= len(value) <= MOST_TERMS:
        return None
    terms = []
    for pair in value:
        expression = read_expression(pair[0], design) if is_tuple_of(pair, 2) and is_integer(pair[1]) else None
        if expression is None:
            return None
        terms.append((expression, pair[1]))
    return terms


def read_modes(value, design):
    """The places of the modes that are meant by None or by a mode, or None."""
    if value is None:
        return list(range(len(design.modes)))
    return [design.modes.index(value)] if value in design.modes else None


def read_one(value, design):
    """The name of a call of the sort one, or None."""
    return value if value in design and design.sort_of(value) == ONE else None


def read_many(value, design):
    """The name of a call of the sort many, or None."""
    return value if value in design and design.sort_of(value) == MANY else None


def read_call(value, design):
    """The name of a call, or None."""
    return value if value in design else None


def read_rule(value, _):
    """The rule of a loop, or None."""
    return value if value in RULES else None


def read_number(value, _):
    """A number of fields that a design can have, or None."""
    return value if is_integer(value) and 1 <= value <= MOST_FIELDS else None


def read_field(value, design):
    """The name of a field, or None."""
    return value if value in design.fields else None


READERS = {
    "fact": read_fact,
    "expression": read_expression,
    "terms": read_terms,
    "modes": read_modes,
    "design": read_design,
    "one": read_one,
    "many": read_many,
    "call": read_call,
    "rule": read_rule,
    "number": read_number,
    "field": read_field,
}


def read_part(kind, value, design):
    """What a part of a claim of this kind tells, or None."""
    reader = READERS[kind]
    return reader(value, design)
