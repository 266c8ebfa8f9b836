"""Promises about designs that are made and changed (point 9): properties, texts, names, calls, cases and views."""

import operator
import random

from onemember.designs import Design
from onemember.errors import InvalidCalls, InvalidPairs, TooManyCalls, UnknownCall, UnknownMode, UnknownView
from onemember.expressions import Expression
from onemember.samples import sample_design
from tests.helper import CloseCase, plain_values, strange_values
from tests.plain import any_design, great_design, great_form

SAMPLE_TEXT = """fields invited inside
modes day night
call invite many
case day day
set invited = invited | given
call enter one
case day day
fact given <= invited
set inside = inside | given
call leave one
case day day
set inside = inside - given
case night night
set inside = inside - given
call close none
case day night
set invited = none
call begin none
case night day
fact inside <= none
view guests
show inside
show inside
view awaited
show invited - inside
show none"""

FIELDS = ("a", "b")
MODES = ("m", "n")
ADD = ("add", "one", (("n", (("given", "a"),), (("b", ("|", "b", "given")), ("a", "none")), "n"), ("m", (), (), "m")))
ALL = ("all", "many", (("m", (("a", "b"), ("given", "none")), (("a", "given"),), "n"),))
OFF = ("off", "none", ())
HERE = ("here", ("a", ("-", "b", "none")))
DESIGN = Design(FIELDS, MODES, (ADD, ALL, OFF), (HERE,))


class MakingTest(CloseCase):

    def test_properties(self):
        self.same(DESIGN.fields, FIELDS)
        self.same(DESIGN.modes, MODES)
        self.same(DESIGN.calls, (ADD, ALL, OFF))
        self.same(DESIGN.views, (HERE,))
        self.same(DESIGN.names, ("add", "all", "off"))
        self.same(DESIGN.view_names, ("here",))
        self.same(len(DESIGN), 3)
        self.assertEqual(repr(DESIGN), "Design(2 fields, 2 modes, 3 calls)")

    def test_parameters_by_name(self):
        self.assertEqual(Design(views=(HERE,), calls=(ADD, ALL, OFF), modes=MODES, fields=FIELDS), DESIGN)

    def test_the_least_design(self):
        least = Design(("a",), ("m",), (), ())
        self.assertEqual((least.names, least.view_names, len(least), bool(least)), ((), (), 0, False))
        self.assertEqual(repr(least), "Design(1 fields, 1 modes, 0 calls)")
        self.assertEqual(str(least), "fields a\nmodes m")
        self.assertTrue(DESIGN)

    def test_the_greatest_design(self):
        great = great_design(random.Random(1))
        self.assertEqual((len(great.fields), len(great.modes), len(great), len(great.views)), (4, 4, 8, 4))
        self.assertEqual({len(case[1]) for _, _, cases in great.calls for case in cases}, {5})
        size = Expression(great.calls[0][2][0][1][0][1])
        self.assertEqual((size.leaves, size.depth), (200, 20))
        self.assertEqual(Design.read(str(great)), great)

    def test_names_of_one_and_eight_characters(self):
        fields, modes = ("a", "abcdefg8"), ("z", "abcdefg8", "given", "none")
        call = ("abcdefg8", "one", (("given", (), (("abcdefg8", "a"),), "given"),))
        design = Design(fields, modes, (call, ("c", "none", ())), (("abcdefg8", ("a", "a", "a", "abcdefg8")), ("v", ("none",) * 4)))
        self.assertEqual(Design.read(str(design)), design)
        self.assertEqual(design.case_of("abcdefg8", "given"), call[2][0])

    def test_given_and_none_are_names_of_modes_calls_and_views(self):
        calls = (("given", "many", (("none", (), (("a", "given"),), "given"),)), ("none", "none", (("given", (), (), "none"),)))
        design = Design(("a",), ("given", "none"), calls, (("none", ("a", "none")), ("given", ("none", "a"))))
        self.assertEqual(design.names, ("given", "none"))
        self.assertEqual(Design.read(str(design)), design)
        self.assertEqual(design.view_of("given", "none"), Expression("a"))
        self.assertEqual(design.renamed((("a", "none1"),)).modes, ("given", "none"))

    def test_the_same_names_for_fields_modes_calls_and_views(self):
        design = Design(("a",), ("a",), (("a", "none", (("a", (("a", "a"),), (("a", "a"),), "a"),)),), (("a", ("a",)),))
        self.assertEqual(Design.read(str(design)), design)
        other = design.renamed((("a", "b"),))
        self.assertEqual(str(other), "fields b\nmodes a\ncall a none\ncase a a\nfact b <= b\nset b = b\nview a\nshow b")

    def test_the_sample(self):
        design = sample_design()
        self.same(str(design), SAMPLE_TEXT)
        self.assertEqual(design.fields, ("invited", "inside"))
        self.assertEqual(design.calls[1], (
            "enter", "one", (("day", (("given", "invited"),), (("inside", ("|", "inside", "given")),), "day"),)))
        self.assertEqual(design.views[1], ("awaited", (("-", "invited", "inside"), "none")))
        self.assertEqual(design, sample_design())

    def test_equal_exactly_if_the_four_tuples_are(self):
        parts = (FIELDS, MODES, (ADD, ALL, OFF), (HERE,))
        changed = (
            ("b", "a"), ("n", "m"), (ALL, ADD, OFF), (("there", HERE[1]),),
            ("a", "b", "c"), MODES, (ADD, ALL), (),
        )
        self.assertIs(Design(*parts) == DESIGN, True)
        self.assertIs(Design(*parts) != DESIGN, False)
        for at, part in enumerate(changed):
            other = Design(*[part if place == at % 4 else old for place, old in enumerate(parts)])
            self.assertIs(other == DESIGN, part == parts[at % 4])
            self.assertIs(other != DESIGN, part != parts[at % 4])

    def test_no_other_value_is_equal(self):
        for value in strange_values(Design) + [(FIELDS, MODES, DESIGN.calls, DESIGN.views), str(DESIGN)]:
            self.assertIs(DESIGN == value, False)
            self.assertIs(value == DESIGN, False)
            self.assertIs(DESIGN != value, True)

    def test_what_is_in_a_design(self):
        for name in DESIGN.names:
            self.assertIs(name in DESIGN, True)
        for value in ["a", "m", "here", "Add", "add ", ADD, ("add",)] + strange_values():
            self.assertIs(value in DESIGN, False)

    def test_nothing_changes(self):
        with self.assertRaises(AttributeError):
            DESIGN.fields = ("c",)
        with self.assertRaises(AttributeError):
            DESIGN.names = ()


class LookingTest(CloseCase):

    def test_sorts(self):
        self.assertEqual([DESIGN.sort_of(name) for name in DESIGN.names], ["one", "many", "none"])
        self.assertEqual(DESIGN.sort_of(call="add"), "one")

    def test_cases(self):
        self.same(DESIGN.case_of("add", "n"), ADD[2][0])
        self.same(DESIGN.case_of("add", "m"), ADD[2][1])
        self.same(DESIGN.case_of(mode="m", call="all"), ALL[2][0])
        for call, mode in (("all", "n"), ("off", "m"), ("off", "n")):
            self.assertIs(DESIGN.case_of(call, mode), None)

    def test_views(self):
        for mode, form in zip(MODES, HERE[1]):
            found = DESIGN.view_of("here", mode)
            self.assertIs(found.__class__, Expression)
            self.assertEqual(found.form, form)
        self.assertEqual(DESIGN.view_of(mode="m", name="here"), Expression("a"))

    def test_unknown_calls(self):
        for wrong in ["", "here", "a", "m", "ADD", ADD] + strange_values():
            self.refused(UnknownCall, {"value": wrong}, DESIGN.sort_of, wrong)
            self.refused(UnknownCall, {"value": wrong}, DESIGN.case_of, wrong, "m")
            self.refused(UnknownCall, {"value": wrong}, DESIGN.case_of, wrong, 5)
            self.refused(UnknownCall, {"value": wrong}, DESIGN.without, wrong)

    def test_unknown_modes(self):
        for wrong in ["", "add", "here", "a", "M"] + strange_values():
            self.refused(UnknownMode, {"value": wrong}, DESIGN.case_of, "off", wrong)
            self.refused(UnknownMode, {"value": wrong}, DESIGN.view_of, "here", wrong)

    def test_unknown_views(self):
        for wrong in ["", "add", "a", "m", HERE] + strange_values():
            self.refused(UnknownView, {"value": wrong}, DESIGN.view_of, wrong, "m")
            self.refused(UnknownView, {"value": wrong}, DESIGN.view_of, wrong, 5)

    def test_any_designs(self):
        chance = random.Random(3)
        for _ in range(60):
            design = any_design(chance)
            for name, sort, cases in design.calls:
                self.assertEqual(design.sort_of(name), sort)
                for mode in design.modes:
                    due = [case for case in cases if case[0] == mode]
                    self.assertEqual(design.case_of(name, mode), due[0] if due else None)
            for name, forms in design.views:
                self.assertEqual(tuple(design.view_of(name, mode).form for mode in design.modes), forms)


class ChangingTest(CloseCase):

    def setUp(self):
        self.before = str(DESIGN)

    def tearDown(self):
        self.assertEqual(str(DESIGN), self.before)

    def test_a_call_behind_the_others(self):
        call = ("more", "none", (("m", (), (), "n"),))
        found = DESIGN.with_call(call)
        self.assertIs(found.__class__, Design)
        self.assertEqual(found, Design(FIELDS, MODES, (ADD, ALL, OFF, call), (HERE,)))
        self.assertEqual(DESIGN.with_call(call=call), found)

    def test_a_call_in_the_place_of_one(self):
        call = ("all", "one", ())
        self.assertEqual(DESIGN.with_call(call), Design(FIELDS, MODES, (ADD, call, OFF), (HERE,)))
        self.assertEqual(DESIGN.with_call(ALL), DESIGN)

    def test_calls_that_are_not_valid(self):
        wrong = [
            ("more", "one", (("m", (), (), "n"),)), ("more", "none", (("m", (("given", "a"),), (), "n"),)),
            ("more", "one", (("m", (("c", "a"),), (), "m"),)), ("more", "one", (("m", (), (("c", "a"),), "m"),)),
            ("More", "one", ()), ("more", "two", ()), ("more", "one", []), ["more", "one", ()], ("more", "one"), (ADD,),
        ]
        full = Design(FIELDS, MODES, tuple((f"c{at}", "one", ()) for at in range(8)), ())
        for value in wrong + strange_values():
            self.refused(InvalidCalls, {"index": 0}, DESIGN.with_call, value)
            self.refused(InvalidCalls, {"index": 0}, full.with_call, value)

    def test_too_many_calls(self):
        design = Design(FIELDS, MODES, tuple((f"c{at}", "one", ()) for at in range(7)), ())
        full = design.with_call(("c7", "many", ()))
        self.assertEqual(len(full), 8)
        self.refused(TooManyCalls, {"limit": 8}, full.with_call, ("c8", "one", ()))
        self.assertEqual(full.with_call(("c3", "none", ())).sort_of("c3"), "none")

    def test_without_a_call(self):
        self.assertEqual(DESIGN.without("all"), Design(FIELDS, MODES, (ADD, OFF), (HERE,)))
        less = DESIGN.without(name="add").without("all").without("off")
        self.assertEqual(less, Design(FIELDS, MODES, (), (HERE,)))
        self.refused(UnknownCall, {"value": "add"}, less.without, "add")

    def test_renamed(self):
        found = DESIGN.renamed((("a", "zed"),))
        self.assertEqual(found.fields, ("zed", "b"))
        self.assertEqual(found.calls[0], ("add", "one", (
            ("n", (("given", "zed"),), (("b", ("|", "b", "given")), ("zed", "none")), "n"), ("m", (), (), "m"))))
        self.assertEqual(found.calls[1], (
            "all", "many", (("m", (("zed", "b"), ("given", "none")), (("zed", "given"),), "n"),)))
        self.assertEqual(found.views, (("here", ("zed", ("-", "b", "none"))),))
        self.assertEqual((found.modes, found.names), (MODES, DESIGN.names))

    def test_names_of_modes_calls_and_views_stay(self):
        call = ("a", "one", (("a", (), (("a", ("&", ("|", "a", "b"), "given")),), "a"),))
        design = Design(("a", "b"), ("a", "b"), (call,), (("a", ("a", ("-", ("-", "a", "b"), "none"))),))
        due = ("a", "one", (("a", (), (("b", ("&", ("|", "b", "a"), "given")),), "a"),))
        self.assertEqual(
            design.renamed((("a", "b"), ("b", "a"))),
            Design(("b", "a"), ("a", "b"), (due,), (("a", ("b", ("-", ("-", "b", "a"), "none"))),)))

    def test_names_in_a_circle(self):
        design = Design(("a", "b", "c", "d"), ("m",), (), (("v", (("|", ("|", "a", "b"), ("|", "c", "d")),)),))
        found = design.renamed((("c", "a"), ("a", "b"), ("b", "c")))
        self.assertEqual(found.fields, ("b", "c", "a", "d"))
        self.assertEqual(str(found.view_of("v", "m")), "(b | c) | (a | d)")
        self.assertEqual(design.renamed((("a", "a"),)), design)
        self.assertEqual(design.renamed(pairs=()), design)
        self.assertEqual(found.renamed((("b", "a"), ("c", "b"), ("a", "c"))), design)

    def test_long_forms(self):
        design = Design(("a", "b"), ("m",), (), (("v", (great_form(("a", "b")),)),))
        found = design.renamed((("a", "b"), ("b", "a")))
        self.assertEqual(found.views[0][1][0], great_form(("b", "a")))

    def test_pairs_that_are_no_tuple(self):
        for wrong in strange_values(tuple):
            self.refused(InvalidPairs, {"index": None}, DESIGN.renamed, wrong)

    def test_pairs_that_are_not_valid(self):
        good = ("a", "zed")
        wrong = [
            ("a",), ("b", "x", "y"), ["b", "x"], ("c", "x"), ("given", "x"), ("a", "x"), ("b", "given"), ("b", "none"),
            ("b", "X"), ("b", "ninechars"), ("b", ""), ("b", "zed"), (5, "x"), ("b", 5), (None, None), (("b",), "x"),
        ]
        for value in wrong + [value for value in strange_values()]:
            self.refused(InvalidPairs, {"index": 1}, DESIGN.renamed, (good, value))
            self.refused(InvalidPairs, {"index": 1}, DESIGN.renamed, (good, value, 5, value))
        for value in strange_values():
            self.refused(InvalidPairs, {"index": 0}, DESIGN.renamed, ((value, "x"),))
            if value != "a":
                self.refused(InvalidPairs, {"index": 0}, DESIGN.renamed, (("a", value), ("b", "x")))

    def test_the_name_of_a_field_that_stays(self):
        self.refused(InvalidPairs, {"index": 0}, DESIGN.renamed, (("a", "b"),))
        self.refused(InvalidPairs, {"index": 1}, DESIGN.renamed, (("a", "b"), ("b", "b")))
        self.refused(InvalidPairs, {"index": 1}, DESIGN.renamed, (("a", "b"), ("b", 5)))
        self.refused(InvalidPairs, {"index": 0}, DESIGN.renamed, (("a", "b"), ("c", "d")))
        three = Design(("a", "b", "c"), ("m",), (), ())
        self.refused(InvalidPairs, {"index": 2}, three.renamed, (("a", "b"), ("b", "a"), ("c", "a")))
        self.refused(InvalidPairs, {"index": 1}, three.renamed, (("a", "b"), ("b", "c")))
        self.refused(InvalidPairs, {"index": 3}, three.renamed, (("a", "b"), ("b", "c"), ("c", "a"), ("a", "d")))


class DifferentOnesTest(CloseCase):

    def test_no_order_between_designs(self):
        for sign in (operator.lt, operator.add):
            with self.assertRaises(TypeError):
                sign(DESIGN, DESIGN)

    def test_plain_values_are_not_designs(self):
        self.assertNotIn(DESIGN, plain_values())
