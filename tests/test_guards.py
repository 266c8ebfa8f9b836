"""Promises about the weakest design in which a fact holds for ever, and designs that are doomed (points 2 and 21)."""

import itertools
import random

from onemember.alike import alike, stands_in
from onemember.deciding import always
from onemember.designs import Design
from onemember.errors import InvalidNames, NotADesign, NotAFact, UnknownField
from onemember.expressions import Expression, Fact
from onemember.guards import doomed, weakest
from onemember.histories import outcomes, read_history
from onemember.samples import sample_design
from tests.helper import CloseCase, strange_values, who
from tests.plain import Plain, all_ways, any_design, deeds, form_without_given, great_design, lively_designs
from tests.test_least import at, insides

SAMPLE = sample_design()
FACT = Fact.read("inside <= invited")


def any_fact(chance, design):
    """A fact of the fields of a design by chance."""
    return Fact(Expression(form_without_given(chance, design.fields)), Expression(form_without_given(chance, design.fields)))


def any_free(chance, design):
    """Some of the calls of a design by chance."""
    return tuple(chance.sample(design.names, chance.randint(0, len(design.names)))) if chance.random() < 0.7 else ()


def keeps(fact, keeper):
    """Whether a fact holds in a plain keeper."""
    return keeper.who(fact.left.form) <= keeper.who(fact.right.form)


def plain_doom(fact, design, free, start):
    """The first deeds of free calls for x alone, from a plain keeper on, behind which a fact does not hold, or None."""
    found, seen = [((), start)], {start.key()}
    for way, keeper in found:
        if not keeps(fact, keeper):
            return way
        for deed in deeds(design, ("x",), only=free):
            later = keeper.copy()
            if later.do(*deed) and later.key() not in seen:
                seen.add(later.key())
                found.append(((*way, deed), later))
    return None


def plain_granted(fact, design, free, names, most):
    """The histories of the weakest design: behind each of their deeds nobody, in any fields or none, is doomed."""
    doomed_at = {(mode, inside): plain_doom(fact, design, free, at(design, mode, inside)) is not None
                 for mode in design.modes for inside in insides(design)}
    level, found = [((), Plain(design))], []
    for _ in range(most + 1):
        longer = []
        for way, keeper in level:
            if not any(doomed_at[keeper.mode, keeper.inside(name)] for name in names + ("nobody",)):
                found.append(way)
                for deed in deeds(design, names):
                    later = keeper.copy()
                    if later.do(*deed):
                        longer.append(((*way, deed), later))
        level = longer
    return found


def refuses(case, sort, sets, given):
    """Whether a case refuses a set of names that is given, in a state."""
    wrong = [who(left, sets, given) - who(right, sets, given) for left, right in case[1]]
    return any(names & given if sort == "one" else names for names in wrong)


class GuardsCase(CloseCase):

    def check_stricter(self, less, design, free):
        """The first design is stricter than the second one, as the point tells it."""
        self.assertEqual((less.fields, less.modes, less.views, less.names), (design.fields, design.modes, design.views, design.names))
        names = {"one": ["x"], "many": ["", "x"], "none": [""]}
        for (name, sort, cases), (_, old_sort, old_cases) in zip(less.calls, design.calls):
            self.assertEqual(sort, old_sort)
            if name in free:
                self.assertEqual(cases, old_cases)
            for case in cases:
                old = [one for one in old_cases if one[0] == case[0]][0]
                self.assertEqual(case[2:], old[2:])
                for inside, given in itertools.product(insides(design), names[sort]):
                    sets = at(design, case[0], inside).sets
                    if refuses(old, sort, sets, set(given)):
                        self.assertTrue(refuses(case, sort, sets, set(given)))
        self.assertEqual(Design.read(str(less)), less)

    def check(self, fact, design, free, names=("x", "y"), most=2):
        """The weakest design, as a plain search has it, or None."""
        found = weakest(fact, design, free=free)
        due = plain_doom(fact, design, free, Plain(design))
        self.assertEqual(doomed(fact, design, free=free), due)
        self.assertEqual(found is None, due is not None)
        if found is not None:
            self.check_stricter(found, design, free)
            self.assertIs(always(fact, found), True)
            self.assertIs(stands_in(design, found), True)
            granted = [way for way, _ in all_ways(found, names, most)]
            self.assertEqual(granted, plain_granted(fact, design, free, names, most))
        return found


class SampleTest(GuardsCase):

    def test_the_printed_ones(self):
        safe, strict = weakest(FACT, SAMPLE), weakest(FACT, SAMPLE, free=("close",))
        self.same(outcomes(safe, read_history("invite {x}; enter x; close; leave x; close")), (True, True, False, True, True))
        self.same(outcomes(strict, read_history("invite {x}; enter x; close")), (True, False, True))
        self.same(doomed(FACT, SAMPLE, free=("invite", "enter", "close")), (("invite", ("x",)), ("enter", "x"), ("close", None)))
        self.assertEqual(weakest(design=SAMPLE, fact=FACT, free=("close",)), strict)
        self.assertEqual(doomed(free=("close",), design=SAMPLE, fact=FACT), None)

    def test_all_free_calls(self):
        for many in range(6):
            for free in itertools.combinations(SAMPLE.names, many):
                self.check(FACT, SAMPLE, free)
                self.check(Fact.read("invited <= none"), SAMPLE, free)
                self.assertEqual(weakest(FACT, SAMPLE, free=free), weakest(FACT, SAMPLE, free=free[::-1]))
                self.assertEqual(doomed(FACT, SAMPLE, free=free), doomed(FACT, SAMPLE, free=free[::-1]))

    def test_only_what_leads_astray_is_refused_more_often(self):
        safe = weakest(FACT, SAMPLE)
        self.assertEqual([name for name in SAMPLE.names if safe.case_of(name, "day") != SAMPLE.case_of(name, "day")], ["close"])
        self.assertEqual([name for name in SAMPLE.names if safe.case_of(name, "night") != SAMPLE.case_of(name, "night")], [])
        strict = weakest(FACT, SAMPLE, free=("close",))
        self.assertEqual([name for name in SAMPLE.names if strict.case_of(name, "day") != SAMPLE.case_of(name, "day")], ["enter"])
        self.assertEqual(strict.case_of("enter", "day")[1][:1], SAMPLE.case_of("enter", "day")[1])

    def test_a_fact_that_holds_anyway(self):
        self.assertIs(alike(weakest(Fact.read("invited - inside <= invited"), SAMPLE), SAMPLE), True)
        self.assertIs(doomed(Fact.read("none <= none"), SAMPLE, free=SAMPLE.names), None)
        self.assertIs(alike(weakest(Fact.read("none <= none"), SAMPLE, free=SAMPLE.names), SAMPLE), True)

    def test_without_calls(self):
        bare = Design(("a", "b"), ("m",), (), ())
        self.assertEqual(weakest(Fact.read("a <= b"), bare), bare)
        self.assertIs(doomed(Fact.read("a <= b"), bare), None)


class CasesTest(GuardsCase):

    def test_a_mode_that_nobody_may_come_into(self):
        # Whoever is outside can be put into a by the free call, in the mode n: so the mode n must never be reached.
        calls = (
            ("go", "none", (("m", (), (), "n"),)), ("back", "many", (("n", (), (), "m"),)), ("free", "one", (("n", (), (("a", "given"),), "n"),)),
        )
        design = Design(("a",), ("m", "n"), calls, ())
        fact = Fact.read("a <= none")
        found = self.check(fact, design, ("free",))
        self.assertIs(found.case_of("go", "m"), None)
        self.assertEqual(found.case_of("free", "n"), design.case_of("free", "n"))
        self.assertEqual(doomed(fact, design, free=("free", "go")), (("go", None), ("free", "x")))
        self.assertIs(weakest(fact, design, free=("free", "go")), None)

    def test_five_facts_in_a_case(self):
        facts = (("given", "given"), ("none", "b"), ("b", "b"), (("&", "given", "b"), "none"), ("none", "none"))
        for many in range(6):
            for sort in ("one", "many"):
                call = ("p", sort, (("m", facts[:many], (("a", ("|", "a", "given")),), "m"),))
                other = ("q", "many", (("m", (), (("b", ("|", "b", "given")),), "m"),))
                design = Design(("a", "b"), ("m",), (call, other), ())
                found = self.check(Fact.read("a <= b"), design, ("q",))
                self.assertLessEqual(len(found.case_of("p", "m")[1]), 5)
                if sort == "one" and many > 3:
                    self.assertEqual(outcomes(found, (("q", ("x",)), ("p", "x"), ("p", "y"))), (True, False, False))
                self.check(Fact.read("a & b <= none"), design, ())

    def test_a_call_that_is_refused_in_fields_where_nobody_comes(self):
        call = ("p", "none", (("m", (("b", "none"),), (("a", "c"),), "m"),))
        add = ("q", "one", (("m", (), (("c", ("|", "c", "given")),), "m"),))
        design = Design(("a", "b", "c"), ("m",), (call, add), ())
        found = self.check(Fact.read("a <= none"), design, ("q",))
        self.assertEqual(outcomes(found, (("p", None), ("q", "x"), ("p", None))), (True, True, False))

    def test_all_stricter_designs_with_a_single_field(self):
        chance = random.Random(140)
        told = refused = 0
        while told < 12:
            design = any_design(chance, fields=1, modes=2, calls=3, views=0)
            field = design.fields[0]
            free = any_free(chance, design)[:1]
            if sum(len(cases) for name, _, cases in design.calls if name not in free) > 3:
                continue
            fact = Fact(Expression(field), Expression("none"))
            found = self.check(fact, design, free)
            granted = [] if found is None else [way for way, _ in all_ways(found, ("x",), 3)]
            for less in stricter_designs(design, free):
                if all(keeps(fact, keeper) for _, keeper in all_ways(less, ("x",), 3)) and always(fact, less):
                    self.assertLessEqual({way for way, _ in all_ways(less, ("x",), 3)}, set(granted))
            told += found is not None
            refused += found is None
        self.assertGreater(refused, 0)

    def test_any_designs(self):
        chance = random.Random(141)
        counts = {}
        for design in lively_designs(chance, 90) + lively_designs(chance, 10, fields=4, least=6):
            fact, free = any_fact(chance, design), any_free(chance, design)
            found = self.check(fact, design, free)
            kind = "doomed" if found is None else "same" if alike(found, design) else "stricter"
            counts[kind, bool(free)] = counts.get((kind, bool(free)), 0) + 1
        self.assertGreater(min(counts.get(key, 0) for key in (("doomed", True), ("same", True), ("stricter", True), ("same", False), ("stricter",
                False))), 5, counts)
        self.assertNotIn(("doomed", False), counts)

    def test_three_members(self):
        chance = random.Random(142)
        for design in lively_designs(chance, 10, fields=2, calls=2):
            self.check(any_fact(chance, design), design, any_free(chance, design), names=("a", "b", "c"))

    def test_the_greatest_designs(self):
        chance = random.Random(143)
        for _ in range(2):
            design = great_design(chance)
            for fact, free in ((Fact.read("a <= b"), ()), (Fact.read("a & b <= c"), ("c1", "c8")), (Fact.read("d <= none"), ("c2", "c5"))):
                found = weakest(fact, design, free=free)
                due = plain_doom(fact, design, free, Plain(design))
                self.assertEqual(doomed(fact, design, free=free), due)
                if found is not None:
                    self.check_stricter(found, design, free)
                    self.assertIs(always(fact, found), True)


def stricter_designs(design, free):
    """All designs that are stricter, but for their forms, where the design has a single field."""
    choices = []
    for name, sort, cases in design.calls:
        if name in free:
            choices.append([(name, sort, cases)])
        else:
            versions = [stricter_cases(case, sort, design.fields[0]) for case in cases]
            choices.append([(name, sort, tuple(case for case in some if case)) for some in itertools.product(*versions)])
    for calls in itertools.product(*choices):
        yield Design(design.fields, design.modes, calls, design.views)


def stricter_cases(case, sort, field):
    """All cases that refuse what a case refuses, and None for none."""
    mode, facts, updates, after = case
    forms = {"none": [field], "one": [("&", field, "given"), ("-", "given", field)],
             "many": [("&", field, "given"), ("-", "given", field), ("-", field, "given")]}[sort]
    found = [None]
    for many in range(len(forms) + 1):
        for some in itertools.combinations(forms, many):
            found.append((mode, facts + tuple((form, "none") for form in some), updates, after))
    return found


class RefusedTest(CloseCase):

    def test_no_fact(self):
        for wrong in strange_values(Fact) + ["inside <= invited", FACT.form]:
            for act in (weakest, doomed):
                self.refused(NotAFact, {"value": wrong}, act, wrong, SAMPLE)
                self.refused(NotAFact, {"value": wrong}, act, wrong, 5, free=5)

    def test_no_design(self):
        for wrong in strange_values(Design) + [str(SAMPLE)]:
            for act in (weakest, doomed):
                self.refused(NotADesign, {"value": wrong}, act, FACT, wrong)
                self.refused(NotADesign, {"value": wrong}, act, Fact.read("given <= zed"), wrong, free=5)

    def test_unknown_fields(self):
        for text, due in (("zed <= abe", "abe"), ("given <= zed", "given"), ("inside <= given", "given"), ("inside <= leave", "leave")):
            for act in (weakest, doomed):
                for free in ((), 5, ("zed",)):
                    with self.assertRaises(UnknownField) as caught:
                        act(Fact.read(text), SAMPLE, free=free)
                    self.same(caught.exception.value, due)

    def test_wrong_free_calls(self):
        for act in (weakest, doomed):
            for wrong in strange_values(tuple) + ["close", ["close"]]:
                self.refused(InvalidNames, {"index": None}, act, FACT, SAMPLE, free=wrong)
            for wrong in ["", "day", "inside", "guests", "Close"] + strange_values():
                self.refused(InvalidNames, {"index": 0}, act, FACT, SAMPLE, free=(wrong,))
                self.refused(InvalidNames, {"index": 2}, act, FACT, SAMPLE, free=("close", "begin", wrong, wrong))
            self.refused(InvalidNames, {"index": 1}, act, FACT, SAMPLE, free=("close", "close"))
            self.refused(InvalidNames, {"index": 5}, act, FACT, SAMPLE, free=SAMPLE.names + ("leave", "zed"))
            self.assertIsNot(act(FACT, SAMPLE, free=SAMPLE.names), False)
            with self.assertRaises(TypeError):
                act(FACT, SAMPLE, ("close",))
