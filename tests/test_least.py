"""Promises about fields that are told apart, and the least number of fields (points 2 and 20)."""

import itertools
import random

from onemember.alike import alike, parting
from onemember.deciding import nodes
from onemember.designs import Design
from onemember.errors import InvalidFields, NotADesign, UnknownMode
from onemember.least import classes, fewest, least_design, told_apart
from onemember.samples import sample_design
from tests.helper import CloseCase, strange_values
from tests.plain import Plain, all_ways, any_design, great_design, lively_designs, plain_ways, sets_of
from tests.test_alike import mixed, parts, plain_sign

SAMPLE = sample_design()
BARE = Design(("a", "b", "c", "d"), ("m", "n"), (), ())
COME = ("come", "one", (("m", (), (("seen", ("|", "seen", "given")), ("new", ("-", ("|", "new", "given"), "seen"))), "m"),))
REST = ("rest", "none", (("m", (), (("new", "none"),), "m"),))
NEWS = Design(("seen", "new"), ("m",), (COME, REST), (("fresh", ("new",)),))
# Adds each member to one field more with each deed, and takes those in all four out of all.
COUNT = ("count", "one", (("m", (), (
    ("a", ("^", "a", "given")), ("b", ("^", "b", ("&", "a", "given"))),
    ("c", ("^", "c", ("&", ("&", "a", "b"), "given"))), ("d", ("^", "d", ("&", ("&", "a", "b"), ("&", "c", "given")))),
), "m"),))


def inside_of(design, place):
    """The fields that a number tells, in the order of the design."""
    return tuple(field for at, field in enumerate(design.fields) if place >> at & 1)


def insides(design):
    """All tuples of fields in the order of the design."""
    return [inside_of(design, place) for place in range(2 ** len(design.fields))]


def at(design, mode, inside):
    """A plain keeper in a mode with x in just these fields."""
    return Plain(design, mode, {field: {"x"} if field in inside else set() for field in design.fields})


def plain_told(design, mode, one, other):
    """The first triple of a plain search that tells two tuples of fields apart, or None."""
    return plain_sign(design, design, ("x",), parts, start=(at(design, mode, one), at(design, mode, other)))


def plain_classes(design):
    """The classes, found by a plain search for nodes and one for each two of them."""
    found = sorted({(keeper.mode, keeper.inside("x")) for _, keeper in plain_ways(design, ("x",))})
    groups = {mode: [] for mode in design.modes}
    for mode, inside in found:
        for group in groups[mode]:
            if plain_told(design, mode, group[0], inside) is None:
                group.append(inside)
                break
        else:
            groups[mode].append([inside])
    return tuple(tuple(tuple(group) for group in groups[mode]) for mode in design.modes)


def turned(chance, design):
    """A design with the same meaning, in which a field tells who is in just one of it and another one before."""
    if len(design.fields) == 1:
        return design
    one, other = chance.sample(design.fields, 2)
    calls = tuple((name, sort, tuple(turned_case(case, one, other) for case in cases)) for name, sort, cases in design.calls)
    views = tuple((name, tuple(turned_form(form, one, other) for form in forms)) for name, forms in design.views)
    return Design(design.fields, design.modes, calls, views)


def turned_case(case, one, other):
    mode, facts, updates, after = case
    behind = {one: one, other: other, **dict(updates)}
    behind[one] = ("^", behind[one], behind[other])
    facts = tuple((turned_form(left, one, other), turned_form(right, one, other)) for left, right in facts)
    return (mode, facts, tuple((field, turned_form(form, one, other)) for field, form in behind.items()), after)


def turned_form(form, one, other):
    if isinstance(form, str):
        return ("^", one, other) if form == one else form
    return (form[0], turned_form(form[1], one, other), turned_form(form[2], one, other))


def counting(modulus):
    """A design with four fields whose call leads x through so many numbers in a ring; a view tells the last one."""
    number = {place: (place + 1) % modulus for place in range(modulus)}
    updates = tuple((field, told([place for place in number if number[place] >> at & 1], "given")) for at, field in enumerate("abcd"))
    anybody = ("|", ("|", "a", "b"), ("|", "c", "d"))
    return Design(("a", "b", "c", "d"), ("m",), (("next", "one", (("m", (), updates, "m"),)),), (("all", (told([modulus - 1], anybody),)),))


def told(places, anybody):
    """Who of anybody is in just the fields of one of these numbers."""
    form = "none"
    for place in places:
        there = anybody
        for at, field in enumerate("abcd"):
            there = ("&" if place >> at & 1 else "-", there, field)
        form = there if form == "none" else ("|", form, there)
    return form


class ClassesTest(CloseCase):

    def test_the_sample(self):
        self.same(classes(SAMPLE), (
            (((),), (("invited",),), (("invited", "inside"),)), (((),), (("inside",),))))
        self.same(fewest(SAMPLE), 2)
        self.assertEqual((classes(design=SAMPLE), fewest(design=SAMPLE)), (classes(SAMPLE), 2))

    def test_nodes_that_nothing_tells_apart(self):
        blind = Design(NEWS.fields, NEWS.modes, NEWS.calls, ())
        self.same(classes(blind), ((((), ("seen",), ("seen", "new")),),))
        self.same(fewest(blind), 1)
        self.same(classes(NEWS), ((((),), (("seen",),), (("seen", "new"),)),))
        self.same(fewest(NEWS), 2)

    def test_modes_that_are_never_reached(self):
        calls = (("p", "one", (("m", (), (("a", "given"),), "m"), ("o", (), (), "o"))), ("q", "none", (("o", (), (), "n"),)))
        design = Design(("a",), ("m", "n", "o"), calls, (("v", ("a", "a", "a")),))
        self.same(classes(design), ((((),), (("a",),)), (), ()))
        self.same(fewest(design), 1)

    def test_without_calls_or_views(self):
        self.same(classes(BARE), ((((),),), ()))
        self.same(fewest(BARE), 1)
        shown = Design(("a", "b"), ("m",), (), (("v", ("a",)),))
        self.same(classes(shown), ((((),),),))

    def test_the_order_of_classes_is_that_of_their_first_nodes(self):
        calls = (
            ("p", "one", (("m", (), (("b", ("|", "b", "given")),), "m"),)), ("q", "one", (("m", (), (("a", ("|", "a", "given")),), "m"),)),
        )
        design = Design(("b", "a"), ("m",), calls, (("v", (("&", "a", "b"),)), ("w", (("|", "a", "b"),))))
        self.same(classes(design), ((((),), (("a",),), (("b",),), (("b", "a"),)),))
        design = Design(("b", "a"), ("m",), calls, (("w", (("^", "a", "b"),)),))
        self.same(classes(design), ((((),), (("a",),), (("b",),), (("b", "a"),)),))
        design = Design(("b", "a"), ("m",), calls[:1] + (("q", "many", (("m", (), (("a", "given"),), "m"),)),), (("w", ("b",)),))
        self.same(classes(design), ((((), ("a",)), (("b",), ("b", "a"))),))

    def test_four_fields_in_a_ring(self):
        for modulus, due in ((1, 1), (2, 1), (3, 2), (4, 2), (5, 3), (8, 3), (9, 4), (16, 4)):
            design = counting(modulus)
            self.same(fewest(design), due)
            self.assertEqual([len(found) for found in classes(design)], [modulus])
        self.same(len(nodes(Design(("a", "b", "c", "d"), ("m",), (COUNT,), ()))), 16)

    def test_as_a_plain_search(self):
        chance = random.Random(130)
        counts = {}
        for design in lively_designs(chance, 60, views=1) + lively_designs(chance, 20) + [SAMPLE, NEWS, BARE]:
            due = plain_classes(design)
            self.assertEqual(classes(design), due)
            most = max(len(found) for found in due)
            many = next(many for many in range(1, 5) if most <= 2 ** many)
            self.same(fewest(design), many)
            counts[many < len(design.fields), many] = counts.get((many < len(design.fields), many), 0) + 1
        self.assertGreater(min(counts.get(key, 0) for key in ((False, 1), (False, 2), (True, 1), (True, 2))), 2, counts)


class ToldApartTest(CloseCase):

    def test_the_sample(self):
        self.same(told_apart(SAMPLE, "day", ("invited",), ()), ((), "view", "awaited"))
        self.same(told_apart(SAMPLE, "day", ("inside",), ("invited", "inside")), ((), "deed", ("enter", "x")))
        self.same(told_apart(SAMPLE.without("enter"), "day", ("inside",), ("invited", "inside")), ((("leave", "x"),), "view", "awaited"))
        self.same(told_apart(SAMPLE, "night", ("invited",), ()), ((("begin", None),), "view", "awaited"))
        self.assertIs(told_apart(SAMPLE, "day", ("inside",), ("inside",)), None)
        self.assertEqual(told_apart(other=(), one=("invited",), mode="day", design=SAMPLE), ((), "view", "awaited"))
        self.same(told_apart(NEWS, "m", ("seen",), ()), ((("come", "x"),), "view", "fresh"))

    def test_a_deed(self):
        calls = (("p", "many", (("m", (("given", "a"),), (), "m"),)), ("q", "none", (("m", (("b", "none"),), (), "m"), ("n", (), (), "m"))))
        design = Design(("a", "b"), ("m", "n", "o"), calls, ())
        self.same(told_apart(design, "m", ("a",), ()), ((), "deed", ("p", ("x",))))
        self.same(told_apart(design, "m", (), ("a", "b")), ((), "deed", ("p", ("x",))))
        self.same(told_apart(design, "m", (), ("b",)), ((), "deed", ("q", None)))
        self.same(told_apart(design, "n", (), ("b",)), ((("q", None),), "deed", ("q", None)))
        self.assertIs(told_apart(design, "o", (), ("a", "b")), None)

    def test_fields_and_modes_that_are_no_nodes(self):
        calls = (("p", "one", (("m", (), (("a", "none"),), "m"),)), ("q", "none", (("n", (("a", "b"),), (), "m"),)))
        design = Design(("a", "b"), ("m", "n"), calls, (("v", (("-", "b", "a"), "none")),))
        self.assertEqual(nodes(design), (("m", ()),))
        self.same(told_apart(design, "m", ("a", "b"), ("b",)), ((), "view", "v"))
        self.same(told_apart(design, "m", ("a", "b"), ("a",)), ((("p", "x"),), "view", "v"))
        self.same(told_apart(design, "n", ("a", "b"), ("a",)), ((), "deed", ("q", None)))
        self.same(told_apart(design, "n", ("b",), ()), ((("q", None),), "view", "v"))

    def test_as_a_plain_search(self):
        chance = random.Random(131)
        words = {None: 0, "view": 0, "deed": 0}
        for design in lively_designs(chance, 25, views=1) + lively_designs(chance, 10, views=0) + [SAMPLE, NEWS]:
            for mode in design.modes:
                for one, other in itertools.combinations(insides(design), 2):
                    found = told_apart(design, mode, one, other)
                    self.assertEqual(found, plain_told(design, mode, one, other))
                    self.assertIs(told_apart(design, mode, one, one), None)
                    words[found[1] if found else None] += 1
                    if found and found[1] == "view":
                        self.assertEqual(told_apart(design, mode, other, one), found)
        self.assertTrue(all(count > 50 for count in words.values()), words)

    def test_the_classes_are_those_that_are_not_told_apart(self):
        chance = random.Random(132)
        for design in lively_designs(chance, 15, fields=4, least=8, views=1) + [great_design(chance)]:
            for mode, groups in zip(design.modes, classes(design)):
                same = [(group[0], inside) for group in groups for inside in group[1:]]
                others = list(itertools.combinations([group[-1] for group in groups], 2))
                for one, other in chance.sample(same, min(8, len(same))):
                    self.assertIs(told_apart(design, mode, one, other), None)
                for one, other in chance.sample(others, min(8, len(others))):
                    self.assertIsNot(told_apart(design, mode, one, other), None)


class LeastDesignTest(CloseCase):

    def check(self, design):
        """The least design, which is alike, as short as told, and like the design in all that is told of it."""
        less = least_design(design)
        self.assertEqual(len(less.fields), fewest(design))
        self.assertEqual(fewest(less), fewest(design))
        self.assertEqual((less.modes, less.names, less.view_names), (design.modes, design.names, design.view_names))
        self.assertEqual([less.sort_of(name) for name in less.names], [design.sort_of(name) for name in design.names])
        self.assertIs(alike(design, less), True)
        self.assertIs(alike(less, design), True)
        self.assertEqual(Design.read(str(less)), less)
        return less

    def test_the_printed_one(self):
        come = ("come", "one", (("m", (), (("a", ("|", "a", "given")), ("b", ("|", "b", "given"))), "m"),))
        design = Design(("a", "b"), ("m",), (come,), (("here", (("&", "a", "b"),)),))
        self.check(design)
        self.assertEqual(least_design(design=design), least_design(design))

    def test_special_ones(self):
        for design in (SAMPLE, NEWS, BARE, Design(NEWS.fields, NEWS.modes, NEWS.calls, ()), *(counting(many) for many in range(1, 17))):
            self.check(design)

    def test_any_designs(self):
        chance = random.Random(133)
        shorter = 0
        for design in lively_designs(chance, 120) + lively_designs(chance, 30, fields=4, least=6) + [any_design(chance) for _ in range(60)]:
            shorter += len(self.check(design).fields) < len(design.fields)
        self.assertGreater(shorter, 60)

    def test_the_greatest_designs(self):
        chance = random.Random(134)
        for _ in range(2):
            design = great_design(chance)
            self.check(design)
            self.check(Design(design.fields, design.modes, design.calls, ()))

    def test_as_plain_keepers_with_several_members(self):
        chance = random.Random(135)
        names = ("a", "b")
        for design in lively_designs(chance, 12, fields=3, views=1):
            less = least_design(design)
            for way, keeper in all_ways(design, names, 2):
                other = Plain(less)
                self.assertTrue(all(other.do(*deed) for deed in way))
                self.assertEqual(other.mode, keeper.mode)
                for view in design.view_names:
                    self.assertEqual(other.view(view), keeper.view(view))
            self.assertEqual([way for way, _ in all_ways(less, names, 2)], [way for way, _ in all_ways(design, names, 2)])

    def test_turned_designs(self):
        chance = random.Random(136)
        for design in lively_designs(chance, 60) + [SAMPLE, NEWS, counting(5), counting(8)]:
            other = turned(chance, design)
            for one in (other, turned(chance, other), mixed(chance, other)):
                self.assertIs(parting(design, one), None)
                self.assertEqual(fewest(one), fewest(design))
                self.assertEqual([len(found) for found in classes(one)], [len(found) for found in classes(design)])
                self.assertIs(alike(self.check(one), design), True)


class FewestTest(CloseCase):

    def test_among_all_designs_with_a_single_field(self):
        chance = random.Random(137)
        names = (("p", "one"), ("q", "none"), ("r", "many"))
        single = list(single_designs(names))
        self.assertEqual(len(single), 9 * 3 * 27 * 2)
        found = set()
        while len(found) < 2 or chance.random() < 0.75:
            design = any_design(chance, fields=2, modes=1, calls=3, views=1)
            calls = {sort: cases for _, sort, cases in design.calls}
            if len(calls) == 3 and all(calls.values()):
                calls = tuple((name, sort, calls[sort]) for name, sort in names)
                design = Design(design.fields, ("m",), tuple((name, sort, tuple(("m", *case[1:3], "m") for case in cases)) for name, sort,
                        cases in calls), (("v", design.views[0][1]),))
                least = fewest(design)
                self.assertIs(any(alike(design, one) for one in single), least == 1)
                found.add(least)


def single_designs(names):
    """All designs with the field f and the mode m, these calls, one of each sort, and the view v, that are not alike in form."""
    givens = {"one": [("f", 1), ("", 1)], "none": [("f", 0)], "many": [("f", 0), ("f", 1), ("", 1)]}
    places = [(name, place) for name, sort in names for place in givens[sort]]
    for shown in ("f", "none"):
        for chosen in itertools.product((None, 0, 1), repeat=len(places)):
            told = dict(zip(places, chosen))
            calls = tuple((name, sort, (single_case(name, sort, told),)) for name, sort in names)
            yield Design(("f",), ("m",), calls, (("v", (shown,)),))


def single_case(name, sort, told):
    """The case that refuses the places with None, and puts x into the field behind those with 1."""
    forms = {("f", 0): ("-", "f", "given") if sort != "none" else "f", ("f", 1): ("&", "f", "given"), ("", 1): ("-", "given", "f")}
    refused, updated = "none", "none"
    for place, form in forms.items():
        if told.get((name, place), 0) is None:
            refused = ("|", refused, form)
        elif told.get((name, place), 0):
            updated = ("|", updated, form)
    return ("m", ((refused, "none"),), (("f", updated),), "m")


class RefusedTest(CloseCase):

    def test_no_design(self):
        for wrong in strange_values(Design) + [str(SAMPLE)]:
            for act in (classes, fewest, least_design):
                self.refused(NotADesign, {"value": wrong}, act, wrong)
            self.refused(NotADesign, {"value": wrong}, told_apart, wrong, "day", (), ())
            self.refused(NotADesign, {"value": wrong}, told_apart, wrong, None, 5, 5)

    def test_unknown_modes(self):
        for wrong in ["", "Day", "dusk", "inside", ("day",)] + strange_values():
            self.refused(UnknownMode, {"value": wrong}, told_apart, SAMPLE, wrong, (), ())
            self.refused(UnknownMode, {"value": wrong}, told_apart, SAMPLE, wrong, 5, 5)

    def test_wrong_fields(self):
        for wrong in strange_values(tuple) + [["inside"], "inside"]:
            self.refused(InvalidFields, {"index": None}, told_apart, SAMPLE, "day", wrong, ())
            self.refused(InvalidFields, {"index": None}, told_apart, SAMPLE, "day", wrong, ("zed",))
            self.refused(InvalidFields, {"index": None}, told_apart, SAMPLE, "day", ("inside",), wrong)
        for wrong in ["", "guests", "given", "none", "Inside"] + strange_values():
            self.refused(InvalidFields, {"index": 0}, told_apart, SAMPLE, "night", (wrong,), 5)
            self.refused(InvalidFields, {"index": 1}, told_apart, SAMPLE, "night", (), ("invited", wrong, 5))
        self.refused(InvalidFields, {"index": 1}, told_apart, SAMPLE, "day", ("inside", "invited"), ())
        self.refused(InvalidFields, {"index": 1}, told_apart, SAMPLE, "day", (), ("inside", "inside"))
        self.refused(InvalidFields, {"index": 2}, told_apart, SAMPLE, "day", ("invited", "inside", "invited"), ("zed",))

    def test_subsets_are_all_that_may_be_passed(self):
        for inside in sets_of(SAMPLE.fields):
            inside = tuple(field for field in SAMPLE.fields if field in inside)
            self.assertIs(told_apart(SAMPLE, "day", inside, inside), None)
