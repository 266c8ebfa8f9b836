"""Promises about loops of a call of the sort one beside a call of the sort many (point 18)."""

import itertools
import random

from onemember.designs import Design
from onemember.errors import NotADesign, UnknownCall, UnknownRule, WrongSort
from onemember.keepers import Keeper
from onemember.loops import loop_parting, same_loop
from onemember.members import Members
from onemember.samples import sample_design
from tests.helper import CloseCase, strange_values, told
from tests.plain import all_ways, any_call, great_design, lively_designs, plain_ways, sets_of

RULES = ("skip", "whole", "stop")
SAMPLE = sample_design()
FACTS = ((("&", "given", "off"), "none"),)
UPDATES = (("on", ("|", "on", "given")),)
ONE = ("add", "one", (("m", FACTS, UPDATES, "m"),))
BAR = ("bar", "one", (("m", (), (("off", ("|", "off", "given")),), "m"),))


def design_of(*calls, modes=("m",)):
    return Design(("on", "off"), modes, (*calls, BAR), ())


def plain_loop(keeper, call, names, rule):
    """Whether the loop is granted, as the point tells it; the keeper is as it is behind it."""
    if rule == "whole" and not all(keeper.copy().do(call, name) for name in names):
        return False
    for name in names:
        if not keeper.do(call, name) and rule == "stop":
            return False
    return True


def differ(keeper, one, many, names, rule):
    """Whether a loop and the call do not do the same for these names."""
    looped, called = keeper.copy(), keeper.copy()
    granted = plain_loop(looped, one, names, rule), called.do(many, names)
    return granted[0] != granted[1] or looped.key() != called.key()


def plain_parting(design, one, many, rule):
    """The first pair of a plain search, or None."""
    for way, keeper in plain_ways(design, ("x", "y")):
        for names in ((), ("x",), ("x", "y"), ("y",)):
            if differ(keeper, one, many, names, rule):
                return (way, names)
    return None


def with_twin(chance, design):
    """The design with a call of the sort one, named one, and one of the sort many, named many, that is much like it."""
    one = many = None
    while one is None:
        call = any_call(chance, "one", design.fields, design.modes)
        one = call if call[1] == "one" and call[2] else None
    cases = []
    for mode, facts, updates, after in one[2]:
        if chance.random() < 0.8:
            facts = facts if chance.random() < 0.8 else facts[1:]
            after = after if chance.random() < 0.9 else chance.choice(design.modes)
            cases.append((mode, facts, updates, after))
    many = ("many", "many", tuple(cases))
    return Design(design.fields, design.modes, (one, many) + design.calls[:6], ())


def granting_twin(chance, design):
    """The same, with cases for all modes and an update that leaves whoever is not given."""
    field, other = design.fields[0], design.fields[-1]
    facts = chance.choice([(), (("given", other),), ((("&", "given", other), field),), (("given", field), ("given", other))])
    form = chance.choice([("|", field, "given"), ("-", field, "given"), ("^", field, "given"), field])
    one = tuple((mode, facts, ((field, form),), mode) for mode in design.modes)
    return Design(design.fields, design.modes, (("one", "one", one), ("many", "many", one)) + design.calls[:6], ())


def designs(seed, many):
    chance = random.Random(seed)
    found = [with_twin(chance, design) for design in lively_designs(chance, many)]
    return found + [granting_twin(chance, design) for design in lively_designs(chance, many)]


class ExamplesTest(CloseCase):

    def test_the_document(self):
        design = design_of(ONE, ("all", "many", (("m", FACTS, UPDATES, "m"),)))
        self.same(same_loop(design, "add", "all", rule="whole"), True)
        self.assertIs(loop_parting(design, "add", "all", rule="whole"), None)
        self.same(loop_parting(design, "add", "all", rule="skip"), ((("bar", "x"),), ("x",)))
        self.same(loop_parting(design, "add", "all"), ((("bar", "y"),), ("x", "y")))
        self.same(same_loop(design, "add", "all"), False)

    def test_without_a_rule_it_is_stop(self):
        design = design_of(ONE, ("all", "many", (("m", FACTS, UPDATES, "m"),)))
        self.assertEqual(loop_parting(design, "add", "all"), loop_parting(rule="stop", many="all", one="add", design=design))
        self.assertIs(same_loop(design, "add", "all"), same_loop(design, "add", "all", rule="stop"))
        self.assertEqual([same_loop(design, "add", "all", rule=rule) for rule in RULES], [False, True, False])

    def test_a_loop_that_passes_over(self):
        some = ("all", "many", (("m", (), (("on", ("|", "on", ("-", "given", "off"))),), "m"),))
        design = design_of(ONE, some)
        self.assertIs(same_loop(design, "add", "all", rule="skip"), True)
        self.assertEqual(loop_parting(design, "add", "all", rule="whole"), ((("bar", "x"),), ("x",)))
        self.assertEqual(loop_parting(design, "add", "all", rule="stop"), ((("bar", "x"),), ("x",)))

    def test_calls_that_are_always_granted(self):
        always = ("add", "one", (("m", (), UPDATES, "m"),))
        design = design_of(always, ("all", "many", (("m", (), UPDATES, "m"),)))
        for rule in RULES:
            self.assertEqual((same_loop(design, "add", "all", rule=rule), loop_parting(design, "add", "all", rule=rule)), (True, None))

    def test_the_empty_set_in_each_mode(self):
        turn = ("turn", "none", (("m", (), (), "n"),))
        one, many = ("add", "one", (("m", (), (), "m"),)), ("all", "many", (("m", (), (), "m"),))
        for rule in RULES:
            # In the mode n the loop over nobody is granted, the call is not.
            self.assertEqual(loop_parting(design_of(one, many, turn, modes=("m", "n")), "add", "all", rule=rule), ((("turn", None),), ()))
            self.assertIs(same_loop(design_of(one, many, modes=("m", "n")), "add", "all", rule=rule), True)
            none = ("all", "many", (("m", (("on", "none"),), (), "m"),))
            self.assertIs(same_loop(design_of(one, none), "add", "all", rule=rule), True)
        both = ("all", "many", (("m", (), (), "m"), ("n", (("given", "none"),), (), "n")))
        twice = design_of(one, both, turn, modes=("m", "n"))
        self.assertEqual([loop_parting(twice, "add", "all", rule=rule) for rule in RULES], [((("turn", None),), ("x",)), None, None])

    def test_the_mode_after(self):
        one, many = ("add", "one", (("m", (), (), "m"), ("n", (), (), "n"))), ("all", "many", (("m", (), (), "n"), ("n", (), (), "n")))
        for rule in RULES:
            self.assertEqual(loop_parting(design_of(one, many, modes=("m", "n")), "add", "all", rule=rule), ((), ()))

    def test_names_in_no_field_count(self):
        facts = (("given", "off"),)
        one, many = ("add", "one", (("m", facts, UPDATES, "m"),)), ("all", "many", (("m", (("given", "on"),), UPDATES, "m"),))
        # Nobody is ever in on: both refuse whoever is passed, but for those in off.
        self.assertEqual(loop_parting(design_of(one, many), "add", "all", rule="whole"), ((("bar", "x"),), ("x",)))
        self.assertEqual(loop_parting(design_of(one, many), "add", "all", rule="skip"), ((), ("x",)))
        bare = Design(("on", "off"), ("m",), (one, many), ())
        self.assertEqual([same_loop(bare, "add", "all", rule=rule) for rule in RULES], [False, True, True])

    def test_others_that_the_call_changes(self):
        only = ("all", "many", (("m", (), (("on", "given"),), "m"),))
        design = design_of(("add", "one", (("m", (), UPDATES, "m"),)), only)
        self.assertEqual(loop_parting(design, "add", "all", rule="whole"), ((("add", "x"),), ()))


class PlainSearchTest(CloseCase):

    def test_as_a_plain_search(self):
        counts = {(rule, same): 0 for rule in RULES for same in (True, False)}
        sets = {}
        for design in designs(100, 60):
            for rule in RULES:
                due = plain_parting(design, "one", "many", rule)
                self.assertEqual(loop_parting(design, "one", "many", rule=rule), due)
                self.same(same_loop(design, "one", "many", rule=rule), due is None)
                counts[rule, due is None] += 1
                if due:
                    sets[due[1]] = True
        self.assertTrue(all(count > 5 for count in counts.values()), counts)
        self.assertLessEqual({(), ("x",), ("x", "y")}, set(sets))

    def test_every_set_of_any_names(self):
        names = ("a", "b", "c", "d")
        for design in designs(101, 12):
            answers = [(rule, same_loop(design, "one", "many", rule=rule)) for rule in RULES]
            for (_, keeper), some in itertools.product(all_ways(design, names[:2], 2), sets_of(names)):
                for rule, same in answers:
                    if same:
                        self.assertFalse(differ(keeper, "one", "many", some, rule))

    def test_keepers_do_the_same(self):
        same = 0
        for design in designs(102, 25):
            if same_loop(design, "one", "many", rule="whole"):
                same += 1
                for way, _ in plain_ways(design, ("x", "y"))[:20]:
                    for names in (("x",), ("w", "x"), ("x", "y", "z"), ("y",), ()):
                        self.check_whole(design, way, names)
        self.assertGreater(same, 5)

    def check_whole(self, design, way, names):
        keepers = Keeper(design), Keeper(design)
        for keeper in keepers:
            keeper.do_all(*[(call, Members(*argument) if isinstance(argument, tuple) else argument) for call, argument in way])
        granted = keepers[0].can("many", Members(*names))
        if granted:
            keepers[0].do("many", Members(*names))
            keepers[1].do_all(*[("one", name) for name in names])
        else:
            self.assertFalse(all(keepers[1].can("one", name) for name in names))
        self.assertEqual(told(keepers[0].state), told(keepers[1].state))

    def test_the_greatest_designs(self):
        for seed in range(2):
            design = great_design(random.Random(seed))
            for one, many in (("c1", "c2"), ("c4", "c8")):
                for rule in RULES:
                    self.assertEqual(loop_parting(design, one, many, rule=rule), plain_parting_soon(design, one, many, rule))

    def test_the_greatest_designs_that_do_the_same(self):
        great = great_design(random.Random(5))
        cases = tuple((mode, (), tuple((field, ("|", field, "given")) for field in great.fields), mode) for mode in great.modes)
        design = great.with_call(("c1", "one", cases)).with_call(("c2", "many", cases))
        for rule in RULES:
            self.assertIs(same_loop(design, "c1", "c2", rule=rule), True)


def plain_parting_soon(design, one, many, rule):
    """The first pair of a plain search among the histories of at most one deed; there is one."""
    for way, keeper in all_ways(design, ("x", "y"), 1):
        for names in ((), ("x",), ("x", "y"), ("y",)):
            if differ(keeper, one, many, names, rule):
                return (way, names)
    raise AssertionError("nothing is found so soon")


class RefusedTest(CloseCase):

    def test_no_design(self):
        for wrong in strange_values(Design):
            for act in (same_loop, loop_parting):
                self.refused(NotADesign, {"value": wrong}, act, wrong, "enter", "invite")
                self.refused(NotADesign, {"value": wrong}, act, wrong, 5, 5, rule=5)

    def test_unknown_calls(self):
        for wrong in ["", "Enter", "guests", "day"] + strange_values():
            for act in (same_loop, loop_parting):
                self.refused(UnknownCall, {"value": wrong}, act, SAMPLE, wrong, "invite")
                self.refused(UnknownCall, {"value": wrong}, act, SAMPLE, wrong, 5, rule=5)
                self.refused(UnknownCall, {"value": wrong}, act, SAMPLE, "enter", wrong)
                self.refused(UnknownCall, {"value": wrong}, act, SAMPLE, "enter", wrong, rule=5)

    def test_wrong_sorts(self):
        for act in (same_loop, loop_parting):
            for wrong in ("invite", "close", "begin"):
                self.refused(WrongSort, {"value": wrong}, act, SAMPLE, wrong, "invite")
                self.refused(WrongSort, {"value": wrong}, act, SAMPLE, wrong, 5, rule=5)
            for wrong in ("enter", "leave", "close"):
                self.refused(WrongSort, {"value": wrong}, act, SAMPLE, "leave", wrong)
                self.refused(WrongSort, {"value": wrong}, act, SAMPLE, "leave", wrong, rule=5)

    def test_unknown_rules(self):
        for wrong in ["", "Stop", "stopped", "sto", ("stop",)] + strange_values():
            for act in (same_loop, loop_parting):
                self.refused(UnknownRule, {"value": wrong}, act, SAMPLE, "enter", "invite", rule=wrong)

    def test_the_rule_is_named_alone(self):
        with self.assertRaises(TypeError):
            same_loop(SAMPLE, "enter", "invite", "stop")
