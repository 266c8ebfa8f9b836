"""A second opinion: what designs do, with Python's own sets, and plain searches over it; and designs by chance."""

import itertools

from onemember.designs import Design
from tests.helper import any_form, who


class Plain:
    """A keeper of a design, as point 10 tells it, with Python's own sets. Sets of names are passed as tuples."""

    def __init__(self, design, mode=None, sets=None):
        self.design = design
        self.mode = design.modes[0] if mode is None else mode
        self.sets = {field: set() for field in design.fields} if sets is None else sets

    def copy(self):
        return Plain(self.design, self.mode, {field: set(names) for field, names in self.sets.items()})

    def key(self):
        """The state, as a value."""
        return (self.mode, tuple(tuple(sorted(self.sets[field])) for field in self.design.fields))

    def case(self, call):
        """The case of a call for the mode, looked for by hand."""
        cases = [case for name, _, cases in self.design.calls if name == call for case in cases if case[0] == self.mode]
        return cases[0] if cases else None

    def do(self, call, argument):
        """Whether the deed is granted; if so, it is done. If not, why is told by wrong."""
        case = self.case(call)
        self.wrong = None
        if case is None:
            return False
        _, facts, updates, after = case
        given = {argument} if isinstance(argument, str) else set(argument or ())
        for at, (left, right) in enumerate(facts):
            fails = who(left, self.sets, given) - who(right, self.sets, given)
            if self.sort(call) == "one":
                fails = fails & given
            if fails:
                self.wrong = at
                return False
        behind = {field: who(form, self.sets, given) for field, form in updates}
        for field, names in behind.items():
            if self.sort(call) == "one":
                names = (self.sets[field] - given) | (names & given)
            self.sets[field] = names
        self.mode = after
        return True

    def sort(self, call):
        return [sort for name, sort, _ in self.design.calls if name == call][0]

    def inside(self, name):
        """The fields in which a name is, in the order of the design."""
        return tuple(field for field in self.design.fields if name in self.sets[field])

    def who(self, form):
        return who(form, self.sets, ())

    def view(self, name):
        forms = [forms for view, forms in self.design.views if view == name][0]
        return self.who(forms[self.design.modes.index(self.mode)])


def sets_of(names):
    """All ascending tuples of some of the names, in Python's order."""
    return sorted(some for many in range(len(names) + 1) for some in itertools.combinations(sorted(names), many))


def deeds(design, names, *, only=None):
    """All deeds with these names, in the order of point 11; of the calls named alone, if some are."""
    found = []
    for name, sort, _ in design.calls:
        if only is None or name in only:
            arguments = {"one": sorted(names), "many": sets_of(names), "none": [None]}[sort]
            found.extend((name, argument) for argument in arguments)
    return found


def plain_play(design, history):
    """The plain keeper behind a history that is granted."""
    keeper = Plain(design)
    for call, argument in history:
        assert keeper.do(call, argument), (history, call)
    return keeper


def plain_ways(design, names):
    """A list of (history, plain keeper) for each state that is reached with these names: the first history to it."""
    found = [((), Plain(design))]
    seen = {found[0][1].key()}
    for way, keeper in found:
        for deed in deeds(design, names):
            later = keeper.copy()
            if later.do(*deed) and later.key() not in seen:
                seen.add(later.key())
                found.append(((*way, deed), later))
    return found


def all_ways(design, names, most):
    """All granted histories with at most so many deeds, in their order, each with the plain keeper behind it."""
    level = [((), Plain(design))]
    found = list(level)
    for _ in range(most):
        longer = []
        for way, keeper in level:
            for deed in deeds(design, names):
                later = keeper.copy()
                if later.do(*deed):
                    longer.append(((*way, deed), later))
        found.extend(longer)
        level = longer
    return found


def any_design(chance, *, fields=None, modes=None, calls=None, views=None, free=0.6):
    """A design by chance; free is how often a case has no facts."""
    field_names = tuple(chance.sample(("a", "b", "c", "d", "e"), fields or chance.randint(1, 3)))
    mode_names = tuple(chance.sample(("m", "n", "given", "a"), modes or chance.randint(1, 3)))
    names = chance.sample(("p", "q", "r", "s", "none", "t", "u", "v"), chance.randint(1, 4) if calls is None else calls)
    shown = chance.sample(("v", "w", "given", "u"), chance.randint(0, 2) if views is None else views)
    return Design(
        field_names, mode_names,
        tuple(any_call(chance, name, field_names, mode_names, free) for name in names),
        tuple((view, tuple(form_without_given(chance, field_names) for _ in mode_names)) for view in shown),
    )


def any_call(chance, name, fields, modes, free=0.6):
    """A call by chance."""
    sort = chance.choice(("one", "one", "many", "none"))
    chosen = [mode for mode in modes if chance.random() < 0.75]
    chance.shuffle(chosen)
    form = form_without_given if sort == "none" else form_with_given
    cases = []
    for mode in chosen:
        facts = () if chance.random() < free else tuple(
            (form(chance, fields), form(chance, fields)) for _ in range(chance.randint(1, 2)))
        updated = [field for field in fields if chance.random() < 0.6]
        updates = tuple((field, adding(chance, field, sort, form(chance, fields))) for field in updated)
        cases.append((mode, facts, updates, mode if sort == "one" else chance.choice(modes)))
    return (name, sort, tuple(cases))


def adding(chance, field, sort, form):
    """The form, or rather often one that puts somebody into the field."""
    if sort == "none" or chance.random() < 0.5:
        return form
    return ("|", field, "given")


def form_with_given(chance, fields):
    """A small form, in which given is often."""
    if chance.random() < 0.7:
        return (chance.choice("||-&^"), chance.choice(fields), "given")
    return any_form(chance, fields, 3)


def form_without_given(chance, fields):
    """A small form without given."""
    while True:
        form = any_form(chance, fields, 3)
        if "given" not in str(form):
            return form


def any_deed(chance, design, names):
    """A deed of a design by chance."""
    return chance.choice(deeds(design, names))


def lively_designs(chance, many, *, least=3, **sizes):
    """Designs by chance of which each one has at least so many nodes."""
    found = []
    while len(found) < many:
        design = any_design(chance, **sizes)
        if len(plain_ways(design, ("x",))) >= least:
            found.append(design)
    return found


def great_design(chance):
    """A design with the greatest numbers of everything: fields, modes, calls, views, facts, and leaves and levels."""
    fields, modes = ("a", "b", "c", "d"), ("m1", "m2", "m3", "m4")
    calls = []
    for at, name in enumerate(("c1", "c2", "c3", "c4", "c5", "c6", "c7", "c8")):
        sort = ("one", "many", "none")[at % 3]
        calls.append((name, sort, tuple(great_case(chance, at, sort, fields, mode, modes) for mode in modes)))
    views = tuple((f"v{at}", tuple(form_without_given(chance, fields) for _ in modes)) for at in range(4))
    return Design(fields, modes, tuple(calls), views)


def great_case(chance, at, sort, fields, mode, modes):
    """A case with five facts, three of which always hold, and an update of each field."""
    after = mode if sort == "one" else modes[(modes.index(mode) + at) % 4]
    anybody = great_form(fields if sort == "none" else (*fields, "given"))
    facts = [(field, anybody) for field in fields[:3]] + [(("&", "a", "b"), "c"), (("&", "c", "d"), ("|", "a", "b"))]
    updates = []
    for place, field in enumerate(fields):
        if sort == "none":
            updates.append((field, chance.choice([field, ("-", field, fields[place - 1]), fields[place - 1]])))
        else:
            updates.append((field, chance.choice([field, ("|", field, "given"), ("^", field, "given")])))
    return (mode, tuple(facts), tuple(updates), after)


def great_form(leaves):
    """Who is in one of these leaves, told with 200 leaves and 20 levels."""
    form = leaves[0]
    for level in range(11):
        form = ("|", form, leaves[level % len(leaves)])
    # Now twelve leaves in twelve levels; eight levels more with as much beside them as there may be.
    for level in range(8):
        form = ("|", form, wide(leaves, (24, 24, 24, 24, 24, 24, 24, 20)[level]))
    return form


def wide(leaves, many):
    """Who is in one of these leaves, with so many leaves."""
    if many == 1:
        return leaves[0]
    return ("|", wide(leaves, many // 2), wide(leaves[1:] + leaves[:1], many - many // 2))
