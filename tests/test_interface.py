"""The interface: its names stand in the files that list them, and every parameter has its name and its kind (point 4)."""

import importlib
import inspect
import unittest

from onemember import errors, limits

# Behind a name its parameters; those behind a lone * have to be named.
FUNCTIONS = {
    "expressions": "same_sets(one, other); differing(one, other)",
    "samples": "sample_design()",
    "keepers": "attempt(keeper, act); set_facts(keeper, facts); put_keeper(hall, name, design); get_keeper(hall, name)",
    "histories": "play(design, history); outcomes(design, history); history_text(history); read_history(text); compare(design, one, other);"
                 " histories(design, names, *, most)",
    "deciding": "nodes(design); way_to(design, mode, inside); always(fact, design, *, mode=None); breaking(fact, design, *, mode=None);"
                " apart(one, other, design, *, mode=None); meeting(one, other, design, *, mode=None); bounded(terms, design, *, mode=None);"
                " growing(terms, design, *, mode=None); been(one, other, design); stays(one, design); comes(one, other, design)",
    "alike": "alike(first, second); stands_in(first, second); parting(first, second); falling(first, second)",
    "loops": "same_loop(design, one, many, *, rule='stop'); loop_parting(design, one, many, *, rule='stop')",
    "order": "commute(design, first, second); disorder(design, first, second)",
    "least": "classes(design); told_apart(design, mode, one, other); fewest(design); least_design(design)",
    "guards": "weakest(fact, design, *, free=()); doomed(fact, design, *, free=())",
    "needless": "needless(design); pruned(design); derived(design, field)",
    "joining": "beside(first, second); merged(design, one, other)",
    "reports": "node_report(design); size_report(keeper)",
    "checker": "holds(claim, certificate)",
    "certificates": "certify_always(fact, design, *, mode=None); certify_apart(one, other, design, *, mode=None);"
                    " certify_bounded(terms, design, *, mode=None); certify_been(one, other, design); certify_stays(one, design);"
                    " certify_comes(one, other, design); certify_alike(first, second); certify_stands_in(first, second);"
                    " certify_loop(design, one, many, *, rule='stop'); certify_commute(design, first, second); certify_fields(design);"
                    " certify_derived(design, field)",
}
CLASSES = {
    "members.Members": "__init__(self, *names); from_names(names); read(text); names; __str__; __repr__; __or__; __and__; __sub__; __xor__; __ior__;"
                       " __iand__; __isub__; __ixor__; __le__; __lt__; __ge__; __gt__; __eq__; __contains__; __len__; __iter__; __add__",
    "members.Change": "__init__(self, came, went); between(before, after); came; went; __add__; __neg__; __abs__; __eq__; __bool__; __repr__",
    "expressions.Expression": "__init__(self, form); read(text); form; leaves; depth; fields; has_given; __str__; __repr__; __eq__; __or__; __and__;"
                              " __sub__; __xor__; within(self, other); of(self, sets, *, given=None); meets(self, inside, *, given=False)",
    "expressions.Fact": "__init__(self, left, right); read(text); left; right; form; fields; has_given; __str__; __repr__; __eq__;"
                        " is_kept(self, sets, *, given=None)",
    "designs.Design": "__init__(self, fields, modes, calls, views); fields; modes; calls; views; names; view_names; __str__; __repr__; __len__; __eq__;"
                      " __contains__; sort_of(self, call); case_of(self, call, mode); view_of(self, name, mode); with_call(self, call);"
                      " without(self, name); renamed(self, pairs); read(text)",
    "keepers.Keeper": "__init__(self, design); do(self, call, argument=None); __call__(self, call, argument=None); can(self, call, argument=None);"
                      " undo(self); do_all(self, *deeds, watch=None); trial(self); members(self, field); shown(self, view); design; mode; log; state;"
                      " busy; facts; __len__; __repr__",
    "keepers.RosterKeeper": "__init__(self, design, roster); do(self, call, argument=None); can(self, call, argument=None); roster",
    "keepers.Hall": "__init__(self); __setitem__; __getitem__; __contains__; __len__; __iter__; names; do_all(self, *deeds)",
    "console.Console": "__init__(self, design); say(self, line)",
}
LIMITS = {"MOST_FIELDS": 4, "MOST_MODES": 4, "MOST_CALLS": 8, "MOST_VIEWS": 4, "MOST_FACTS": 5, "MOST_TERMS": 4, "MOST_LEAVES": 200, "MOST_DEPTH": 20}
ERRORS = {
    ("SetError", "value"): "NotMembers NotAChange NotAnExpression NotAFact NotADesign NotAKeeper InvalidName InvalidForm InvalidText InvalidArgument"
                           " UnknownField UnknownMode UnknownCall UnknownView UnknownRule WrongSort",
    ("SetError", "index"): "InvalidNames InvalidSets InvalidFields InvalidModes InvalidCalls InvalidViews InvalidTerms InvalidFacts InvalidPairs"
                           " InvalidHistory InvalidDeeds",
    ("StateError", "found"): "WrongMode", ("StateError", "index"): "Refused Broken", ("StateError", "name"): "Stranger",
    ("StateError", "index reason"): "Stopped", ("StateError", ""): "UnknownKeeper NotComparable NothingToUndo Busy",
    ("LimitError", "limit"): "TooManyLeaves TooManyLevels TooManyFields TooManyCalls TooManyViews TooManyFacts",
}


class InterfaceTest(unittest.TestCase):

    def test_functions(self):
        for file, told in FUNCTIONS.items():
            module = importlib.import_module(f"onemember.{file}")
            for line in told.split("; "):
                name, _, rest = line.partition("(")
                function = getattr(module, name)
                self.assertEqual((function.__module__, function.__name__), (module.__name__, name))
                self.assertEqual(str(inspect.signature(function)), f"({rest}")

    def test_classes(self):
        for place, told in CLASSES.items():
            file, name = place.split(".")
            module = importlib.import_module(f"onemember.{file}")
            found = getattr(module, name)
            self.assertEqual(found.__module__, module.__name__)
            for line in told.split("; "):
                method, _, rest = line.partition("(")
                own = vars(found)[method]
                if rest and not rest.startswith("self"):
                    self.assertIsInstance(own, staticmethod, line)
                    own = own.__func__
                if rest:
                    self.assertEqual(str(inspect.signature(own)), f"({rest}", line)
                elif not method.startswith("__"):
                    self.assertIsInstance(own, property, line)

    def test_errors(self):
        bases = {"SetError": ValueError, "StateError": LookupError, "LimitError": ArithmeticError}
        listed = set(bases)
        for name, base in bases.items():
            self.assertIs(getattr(errors, name).__base__, base)
        for (base, attributes), names in ERRORS.items():
            for name in names.split(" "):
                listed.add(name)
                kind = getattr(errors, name)
                self.assertEqual(kind.__bases__, (getattr(errors, base),))
                values = dict.fromkeys(attributes.split(), 3)
                self.assertEqual(vars(kind(**values)), values)
        self.assertEqual({name for name, kind in vars(errors).items() if inspect.isclass(kind)}, listed)

    def test_limits(self):
        self.assertEqual({name: value for name, value in vars(limits).items() if name.isupper()}, LIMITS)
