"""The numbers of onemember.limits, the classes of onemember.errors, and the interface of all files so far."""

import inspect
import unittest

from onemember import alike, deciding, designs, errors, expressions, histories, keepers, limits, loops, members, order
from onemember import samples

VALUE = (
    "NotMembers NotAChange NotAnExpression NotAFact NotADesign NotAKeeper InvalidName InvalidForm InvalidText"
    " InvalidArgument UnknownField UnknownMode UnknownCall UnknownView UnknownRule WrongSort"
).split()
INDEX = (
    "InvalidNames InvalidSets InvalidFields InvalidModes InvalidCalls InvalidViews InvalidTerms InvalidFacts"
    " InvalidPairs InvalidHistory InvalidDeeds"
).split()
STATE = {
    "WrongMode": ["found"], "Refused": ["index"], "Broken": ["index"], "Stranger": ["name"],
    "Stopped": ["index", "reason"], "UnknownKeeper": [], "NotComparable": [], "NothingToUndo": [], "Busy": [],
}
LIMIT = "TooManyLeaves TooManyLevels TooManyFields TooManyCalls TooManyViews TooManyFacts".split()


def listed_errors():
    """For each error its name, its base class and its attributes."""
    rows = [(name, errors.SetError, ["value"]) for name in VALUE]
    rows += [(name, errors.SetError, ["index"]) for name in INDEX]
    rows += [(name, errors.StateError, told) for name, told in STATE.items()]
    return rows + [(name, errors.LimitError, ["limit"]) for name in LIMIT]


class LimitsTest(unittest.TestCase):

    def test_numbers(self):
        found = {name: value for name, value in vars(limits).items() if name.isupper()}
        self.assertEqual(found, {
            "MOST_FIELDS": 4, "MOST_MODES": 4, "MOST_CALLS": 8, "MOST_VIEWS": 4, "MOST_FACTS": 5, "MOST_TERMS": 4,
            "MOST_LEAVES": 200, "MOST_DEPTH": 20,
        })


class ErrorsTest(unittest.TestCase):

    def test_base_classes(self):
        self.assertEqual(errors.SetError.__bases__, (ValueError,))
        self.assertEqual(errors.StateError.__bases__, (LookupError,))
        self.assertEqual(errors.LimitError.__bases__, (ArithmeticError,))

    def test_each_error_has_its_base_class_alone(self):
        for name, base, _ in listed_errors():
            kind = getattr(errors, name)
            self.assertEqual((name, kind.__bases__), (name, (base,)))
            self.assertEqual(kind.__module__, "onemember.errors")

    def test_each_error_has_its_attributes(self):
        for name, _, told in listed_errors():
            values = [object() for _ in told]
            error = getattr(errors, name)(*values)
            self.assertEqual((name, vars(error)), (name, dict(zip(told, values))))

    def test_no_other_errors(self):
        found = [name for name, kind in vars(errors).items() if isinstance(kind, type)]
        listed = [name for name, _, _ in listed_errors()] + ["SetError", "StateError", "LimitError"]
        self.assertEqual(sorted(found), sorted(listed))


FUNCTIONS = {
    expressions: {"same_sets": "(one, other)", "differing": "(one, other)"},
    samples: {"sample_design": "()"},
    keepers: {
        "attempt": "(keeper, act)", "set_facts": "(keeper, facts)", "put_keeper": "(hall, name, design)",
        "get_keeper": "(hall, name)",
    },
    histories: {
        "play": "(design, history)", "outcomes": "(design, history)", "history_text": "(history)",
        "read_history": "(text)", "compare": "(design, one, other)", "histories": "(design, names, *, most)",
    },
    deciding: {
        "nodes": "(design)", "way_to": "(design, mode, inside)", "always": "(fact, design, *, mode=None)",
        "breaking": "(fact, design, *, mode=None)", "apart": "(one, other, design, *, mode=None)",
        "meeting": "(one, other, design, *, mode=None)", "bounded": "(terms, design, *, mode=None)",
        "growing": "(terms, design, *, mode=None)", "been": "(one, other, design)", "stays": "(one, design)",
        "comes": "(one, other, design)",
    },
    alike: {name: "(first, second)" for name in ("alike", "stands_in", "parting", "falling")},
    loops: {name: "(design, one, many, *, rule='stop')" for name in ("same_loop", "loop_parting")},
    order: {name: "(design, first, second)" for name in ("commute", "disorder")},
}


def parameters(act):
    """The parameters of a function, as a text."""
    return str(inspect.signature(act))


class InterfaceTest(unittest.TestCase):

    def test_members(self):
        self.check(members.Members, {
            "__init__": "(self, *names)", "from_names": "(names)", "read": "(text)",
        }, "names", "__str__ __repr__ __len__ __iter__ __contains__ __eq__ __or__ __and__ __sub__ __xor__ __ior__"
           " __iand__ __isub__ __ixor__ __le__ __lt__ __ge__ __gt__ __add__")

    def test_change(self):
        self.check(members.Change, {
            "__init__": "(self, came, went)", "between": "(before, after)",
        }, "came went", "__repr__ __eq__ __add__ __neg__ __abs__ __bool__")

    def test_expression(self):
        self.check(expressions.Expression, {
            "__init__": "(self, form)", "read": "(text)", "within": "(self, other)",
            "of": "(self, sets, *, given=None)", "meets": "(self, inside, *, given=False)",
        }, "form leaves depth fields has_given", "__str__ __repr__ __eq__ __or__ __and__ __sub__ __xor__")

    def test_fact(self):
        self.check(expressions.Fact, {
            "__init__": "(self, left, right)", "read": "(text)", "is_kept": "(self, sets, *, given=None)",
        }, "left right form fields has_given", "__str__ __repr__ __eq__")

    def test_design(self):
        self.check(designs.Design, {
            "__init__": "(self, fields, modes, calls, views)", "sort_of": "(self, call)", "case_of": "(self, call, mode)",
            "view_of": "(self, name, mode)", "with_call": "(self, call)", "without": "(self, name)",
            "renamed": "(self, pairs)", "read": "(text)",
        }, "fields modes calls views names view_names", "__str__ __repr__ __len__ __eq__ __contains__")

    def test_keeper(self):
        self.check(keepers.Keeper, {
            "__init__": "(self, design)", "do": "(self, call, argument=None)", "__call__": "(self, call, argument=None)",
            "can": "(self, call, argument=None)", "undo": "(self)", "do_all": "(self, *deeds, watch=None)",
            "trial": "(self)", "members": "(self, field)", "shown": "(self, view)",
        }, "design mode log state busy facts", "__len__ __repr__")

    def test_roster_keeper(self):
        self.check(keepers.RosterKeeper, {
            "__init__": "(self, design, roster)", "do": "(self, call, argument=None)", "can": "(self, call, argument=None)",
            "__call__": "(self, call, argument=None)",
        }, "roster", "")
        self.assertEqual(keepers.RosterKeeper.__bases__, (keepers.Keeper,))

    def test_hall(self):
        self.check(keepers.Hall, {"__init__": "(self)", "do_all": "(self, *deeds)"}, "names",
                   "__setitem__ __getitem__ __contains__ __len__ __iter__")

    def test_functions(self):
        for module, functions in FUNCTIONS.items():
            for name, told in functions.items():
                act = vars(module)[name]
                self.assertEqual((name, parameters(act)), (name, told))
                self.assertEqual((name, act.__module__), (name, module.__name__))

    def check(self, kind, methods, properties, signs):
        """The class defines all this itself."""
        own = vars(kind)
        for name, told in methods.items():
            self.assertIn(name, own)
            self.assertEqual((name, parameters(vars_function(own[name]))), (name, told))
        for name in properties.split():
            self.assertIsInstance(own.get(name), property, name)
        for name in signs.split():
            self.assertIn(name, own)


def vars_function(method):
    """The function behind a method, also behind a static one."""
    return getattr(method, "__func__", method)
