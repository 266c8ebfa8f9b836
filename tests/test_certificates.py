"""Promises about certificates: which claim is made, that the checker accepts it, and the errors of the questions."""

import random

from onemember.alike import alike, parting, stands_in
from onemember.certificates import (
    certify_alike, certify_always, certify_apart, certify_been, certify_bounded, certify_comes, certify_commute, certify_derived,
    certify_fields, certify_loop, certify_stands_in, certify_stays,
)
from onemember.checker import holds
from onemember.deciding import always, apart, been, bounded, comes, stays
from onemember.designs import Design
from onemember.errors import InvalidTerms, NotADesign, NotAFact, NotAnExpression, NotComparable, UnknownCall, UnknownField, UnknownMode, UnknownRule, WrongSort
from onemember.expressions import Expression, Fact
from onemember.least import fewest
from onemember.loops import same_loop
from onemember.needless import derived
from onemember.order import commute
from onemember.samples import sample_design
from tests.helper import CloseCase, strange_values
from tests.plain import form_without_given, great_design, lively_designs
from tests.spoiling import pairs_of
from tests.test_alike import FREE, KEPT
from tests.test_least import BARE, NEWS, counting
from tests.test_loops import granting_twin, with_twin

SAMPLE = sample_design()
TEXT = str(SAMPLE)
FACT = Fact.read("inside <= invited")
COME, LATE = Expression("inside"), Expression.read("invited - inside")
OUT = (("invite", ("x",)), ("enter", "x"), ("close", None))
WRONG_DESIGNS = strange_values(Design) + [TEXT]


class ClaimsTest(CloseCase):

    def certified(self, found, word, *told):
        """The claim is the one told, with this word, and the checker accepts it with its certificate, no other one."""
        claim, paper = found
        self.same(claim, (word, *told))
        self.assertIs(found.__class__, tuple)
        self.assertEqual(len(found), 2)
        self.same(holds(claim, paper), True)
        other = word[4:] if word.startswith("not ") else "not " + word
        self.same(holds((other, *told), paper), False)
        return paper

    def test_the_sample(self):
        self.certified(certify_always(FACT, SAMPLE, mode="day"), "always", TEXT, "inside <= invited", "day")
        self.assertEqual(self.certified(certify_always(FACT, SAMPLE), "not always", TEXT, "inside <= invited", None), OUT)
        self.certified(certify_apart(COME, LATE, SAMPLE, mode="night"), "apart", TEXT, "inside", "invited - inside", "night")
        paper = self.certified(certify_apart(COME, LATE, SAMPLE), "not apart", TEXT, "inside", "invited - inside", None)
        self.assertEqual(paper, ((("invite", ("x", "y")), ("enter", "x")), "x", "y"))
        terms = ((COME, 1), (LATE, -1), (Expression("invited"), -1), (COME, 0))
        told = (("inside", 1), ("invited - inside", -1), ("invited", -1), ("inside", 0))
        self.certified(certify_bounded(terms, SAMPLE, mode="day"), "bounded", TEXT, told, "day")
        self.assertEqual(self.certified(certify_bounded(terms, SAMPLE), "not bounded", TEXT, told, None), (OUT, "x"))
        self.certified(certify_been(COME, Expression("invited"), SAMPLE), "been", TEXT, "inside", "invited")
        self.assertEqual(self.certified(certify_been(LATE, COME, SAMPLE), "not been", TEXT, "invited - inside", "inside"), ((OUT[0],), "x"))
        self.assertEqual(self.certified(certify_stays(COME, SAMPLE), "not stays", TEXT, "inside")[1], "x")
        self.certified(certify_stays(Expression.read("inside - inside"), SAMPLE), "stays", TEXT, "inside - inside")
        self.certified(certify_comes(COME, Expression("invited"), SAMPLE), "comes", TEXT, "inside", "invited")
        self.certified(certify_comes(LATE, COME, SAMPLE), "not comes", TEXT, "invited - inside", "inside")

    def test_designs_and_calls(self):
        self.certified(certify_alike(SAMPLE, SAMPLE), "alike", TEXT, TEXT)
        self.assertEqual(self.certified(certify_alike(SAMPLE, KEPT), "not alike", TEXT, str(KEPT)), parting(SAMPLE, KEPT))
        self.certified(certify_stands_in(FREE, SAMPLE), "stands in", str(FREE), TEXT)
        self.certified(certify_stands_in(SAMPLE, FREE), "not stands in", TEXT, str(FREE))
        self.certified(certify_commute(SAMPLE, "invite", "leave"), "commute", TEXT, "invite", "leave")
        self.assertEqual(self.certified(certify_commute(SAMPLE, "enter", "leave"), "not commute", TEXT, "enter", "leave"), ((OUT[0],), "x", "x"))
        for rule in ("skip", "whole", "stop"):
            self.certified(certify_loop(SAMPLE, "enter", "invite", rule=rule), "not same loop", TEXT, "enter", "invite", rule)
        self.assertEqual(certify_loop(SAMPLE, "enter", "invite"), certify_loop(SAMPLE, "enter", "invite", rule="stop"))
        self.certified(certify_fields(SAMPLE), "fields", TEXT, 2)
        self.certified(certify_fields(NEWS), "fields", str(NEWS), 2)
        self.certified(certify_fields(BARE), "fields", str(BARE), 1)
        self.assertIs(certify_derived(SAMPLE, "inside"), None)
        self.certified(certify_derived(BARE, "c"), "derived", str(BARE), "c", str(derived(BARE, "c")))

    def test_all_numbers_of_fields(self):
        for modulus in (1, 2, 3, 4, 5, 8, 9, 16):
            design = counting(modulus)
            ways, signs = self.certified(certify_fields(design), "fields", str(design), fewest(design))
            self.assertEqual(len(signs), len(ways) * (len(ways) - 1) // 2)

    def test_any_designs(self):
        chance = random.Random(180)
        for design in lively_designs(chance, 25, views=1) + lively_designs(chance, 5, fields=4, least=6):
            text, mode = str(design), chance.choice((None, *design.modes))
            one, other = (Expression(form_without_given(chance, design.fields)) for _ in range(2))
            fact, terms = Fact(one, other), ((one, 2), (other, -1))
            pairs = [
                ("always", certify_always(fact, design, mode=mode), always(fact, design, mode=mode), (str(fact), mode)),
                ("apart", certify_apart(one, other, design, mode=mode), apart(one, other, design, mode=mode), (str(one), str(other), mode)),
                ("bounded", certify_bounded(terms, design, mode=mode), bounded(terms, design, mode=mode), (((str(one), 2), (str(other), -1)), mode)),
                ("been", certify_been(one, other, design), been(one, other, design) is None, (str(one), str(other))),
                ("stays", certify_stays(one, design), stays(one, design) is None, (str(one),)),
                ("comes", certify_comes(one, other, design), comes(one, other, design) is None, (str(one), str(other))),
            ]
            for second in pairs_of(chance, design):
                pairs.append(("alike", certify_alike(design, second), alike(design, second), (str(second),)))
                pairs.append(("stands in", certify_stands_in(design, second), stands_in(design, second), (str(second),)))
            for first in design.names:
                for second in design.names:
                    pairs.append(("commute", certify_commute(design, first, second), commute(design, first, second), (first, second)))
            for word, found, is_so, told in pairs:
                self.certified(found, word if is_so else f"not {word}", text, *told)
            self.certified(certify_fields(design), "fields", text, fewest(design))
            for field in design.fields:
                found = certify_derived(design, field)
                self.assertIs(found is None, derived(design, field) is None)
                if found is not None:
                    self.certified(found, "derived", text, field, str(derived(design, field)))

    def test_any_loops(self):
        chance = random.Random(181)
        counts = {True: 0, False: 0}
        for design in lively_designs(chance, 30):
            for twin in (with_twin(chance, design), granting_twin(chance, design)):
                for rule in ("skip", "whole", "stop"):
                    is_so = same_loop(twin, "one", "many", rule=rule)
                    counts[is_so] += 1
                    self.certified(certify_loop(twin, "one", "many", rule=rule), "same loop" if is_so else "not same loop", str(twin), "one", "many", rule)
        self.assertGreater(min(counts.values()), 10, counts)

    def test_the_greatest_designs(self):
        chance = random.Random(182)
        design, other = great_design(chance), great_design(chance)
        text = str(design)
        fact = Fact(Expression("a"), Expression("a"))
        self.certified(certify_always(fact, design), "always", text, "a <= a", None)
        self.certified(certify_apart(Expression("a"), Expression("none"), design), "apart", text, "a", "none", None)
        self.certified(certify_alike(design, design), "alike", text, text)
        self.certified(certify_alike(design, other), "not alike", text, str(other))
        self.certified(certify_fields(design), "fields", text, fewest(design))


class RefusedTest(CloseCase):

    def test_no_facts_expressions_or_terms(self):
        for wrong in strange_values(Fact):
            self.refused(NotAFact, {"value": wrong}, certify_always, wrong, 5, mode=5)
        for wrong in strange_values(Expression) + ["inside"]:
            for act in (certify_apart, certify_been, certify_comes):
                self.refused(NotAnExpression, {"value": wrong}, act, wrong, 5, 5)
                self.refused(NotAnExpression, {"value": wrong}, act, COME, wrong, 5)
            self.refused(NotAnExpression, {"value": wrong}, certify_stays, wrong, 5)
        for wrong in strange_values(tuple) + [(), ((COME, 1),) * 5]:
            self.refused(InvalidTerms, {"index": None}, certify_bounded, wrong, 5, mode=5)
        self.refused(InvalidTerms, {"index": 1}, certify_bounded, ((COME, 1), (COME, True)), 5)

    def test_no_designs(self):
        for wrong in WRONG_DESIGNS:
            zed = Expression("zed")
            self.refused(NotADesign, {"value": wrong}, certify_always, Fact(zed, zed), wrong, mode=5)
            self.refused(NotADesign, {"value": wrong}, certify_apart, zed, zed, wrong, mode=5)
            self.refused(NotADesign, {"value": wrong}, certify_bounded, ((zed, 1),), wrong, mode=5)
            self.refused(NotADesign, {"value": wrong}, certify_been, zed, zed, wrong)
            self.refused(NotADesign, {"value": wrong}, certify_comes, zed, zed, wrong)
            self.refused(NotADesign, {"value": wrong}, certify_stays, zed, wrong)
            for act in (certify_alike, certify_stands_in):
                self.refused(NotADesign, {"value": wrong}, act, wrong, 5)
                self.refused(NotADesign, {"value": wrong}, act, BARE, wrong)
            self.refused(NotADesign, {"value": wrong}, certify_loop, wrong, 5, 5, rule=5)
            self.refused(NotADesign, {"value": wrong}, certify_commute, wrong, 5, 5)
            self.refused(NotADesign, {"value": wrong}, certify_fields, wrong)
            self.refused(NotADesign, {"value": wrong}, certify_derived, wrong, 5)

    def test_unknown_fields_and_modes(self):
        given, zed = Expression("given"), Expression("zed")
        for act, args in (
            (certify_always, (Fact(zed, given), SAMPLE)), (certify_apart, (zed, given, SAMPLE)), (certify_been, (given, zed, SAMPLE)),
            (certify_comes, (zed, given, SAMPLE)), (certify_stays, (given, SAMPLE)), (certify_bounded, (((zed, 1), (given, 1)), SAMPLE)),
        ):
            with self.assertRaises(UnknownField) as caught:
                act(*args)
            self.same(caught.exception.value, "given")
        for wrong in ["", "Day", "inside", ("day",)] + [value for value in strange_values() if value is not None]:
            self.refused(UnknownMode, {"value": wrong}, certify_always, FACT, SAMPLE, mode=wrong)
            self.refused(UnknownMode, {"value": wrong}, certify_apart, COME, COME, SAMPLE, mode=wrong)
            self.refused(UnknownMode, {"value": wrong}, certify_bounded, ((COME, 1),), SAMPLE, mode=wrong)
        for wrong in ["", "Inside", "guests", "given", "none"] + strange_values():
            self.refused(UnknownField, {"value": wrong}, certify_derived, SAMPLE, wrong)

    def test_not_comparable_and_wrong_calls(self):
        for act in (certify_alike, certify_stands_in):
            self.refused(NotComparable, {}, act, SAMPLE, SAMPLE.without("leave"))
            self.refused(NotComparable, {}, act, SAMPLE, BARE)
        for wrong in ["", "Enter", "day"] + strange_values():
            self.refused(UnknownCall, {"value": wrong}, certify_commute, SAMPLE, wrong, 5)
            self.refused(UnknownCall, {"value": wrong}, certify_commute, SAMPLE, "enter", wrong)
            self.refused(UnknownCall, {"value": wrong}, certify_loop, SAMPLE, wrong, 5, rule=5)
            self.refused(UnknownCall, {"value": wrong}, certify_loop, SAMPLE, "enter", wrong, rule=5)
            self.refused(UnknownRule, {"value": wrong}, certify_loop, SAMPLE, "enter", "invite", rule=wrong)
        self.refused(WrongSort, {"value": "invite"}, certify_loop, SAMPLE, "invite", 5, rule=5)
        self.refused(WrongSort, {"value": "leave"}, certify_loop, SAMPLE, "enter", "leave", rule=5)

    def test_by_name(self):
        self.assertEqual(certify_always(mode="day", design=SAMPLE, fact=FACT), certify_always(FACT, SAMPLE, mode="day"))
        self.assertEqual(certify_apart(design=SAMPLE, other=LATE, one=COME), certify_apart(COME, LATE, SAMPLE))
        self.assertEqual(certify_bounded(design=SAMPLE, terms=((COME, 1),)), certify_bounded(((COME, 1),), SAMPLE))
        self.assertEqual(certify_been(design=SAMPLE, other=COME, one=LATE), certify_been(LATE, COME, SAMPLE))
        self.assertEqual(certify_comes(design=SAMPLE, other=COME, one=LATE), certify_comes(LATE, COME, SAMPLE))
        self.assertEqual(certify_stays(design=SAMPLE, one=LATE), certify_stays(LATE, SAMPLE))
        self.assertEqual(certify_alike(second=KEPT, first=SAMPLE), certify_alike(SAMPLE, KEPT))
        self.assertEqual(certify_stands_in(second=FREE, first=SAMPLE), certify_stands_in(SAMPLE, FREE))
        self.assertEqual(certify_loop(rule="skip", many="invite", one="enter", design=SAMPLE), certify_loop(SAMPLE, "enter", "invite", rule="skip"))
        self.assertEqual(certify_commute(second="leave", first="enter", design=SAMPLE), certify_commute(SAMPLE, "enter", "leave"))
        self.assertEqual(certify_fields(design=NEWS), certify_fields(NEWS))
        self.assertEqual(certify_derived(field="c", design=BARE), certify_derived(BARE, "c"))
