"""Promises about designs that are alike, or one of which stands in for the other one (point 17)."""

import random

from onemember.alike import alike, falling, parting, stands_in
from onemember.designs import Design
from onemember.errors import NotADesign, NotComparable
from onemember.histories import outcomes, play
from onemember.members import Members
from onemember.samples import sample_design
from tests.helper import CloseCase, strange_values
from tests.plain import Plain, any_call, any_deed, deeds, form_without_given, great_design, lively_designs
from tests.test_keepers import for_keeper

SAMPLE = sample_design()
KEPT = SAMPLE.with_call(("close", "none", (("day", (), (), "night"),)))
FREE = SAMPLE.with_call(("begin", "none", (("night", (), (("inside", "none"),), "day"),)))
ADD = ("p", "one", (("m", (), (("a", ("|", "a", "given")),), "m"),))
ONE_FIELD = Design(("a",), ("m",), (ADD,), (("v", ("a",)),))


def mixed(chance, design):
    """The same design, with fields, calls and views in another order, and other names of fields."""
    order = list(range(len(design.fields)))
    chance.shuffle(order)
    fields = tuple(design.fields[at] for at in order)
    calls, views = list(design.calls), list(design.views)
    chance.shuffle(calls)
    chance.shuffle(views)
    found = Design(fields, design.modes, tuple(calls), tuple(views))
    return found.renamed(tuple((field, f"f{at}") for at, field in enumerate(fields)))


def changed(chance, design):
    """The design with something else in it, that it can still be compared with."""
    if design.views and chance.random() < 0.3:
        at = chance.randrange(len(design.views))
        view = (design.views[at][0], tuple(form_without_given(chance, design.fields) for _ in design.modes))
        return Design(design.fields, design.modes, design.calls, design.views[:at] + (view,) + design.views[at + 1:])
    name = chance.choice(design.names)
    while True:
        call = any_call(chance, name, design.fields, design.modes)
        if call[1] == design.sort_of(name):
            return design.with_call(call)


def plain_sign(first, second, names, differs, *, start=None):
    """The first triple of a plain search over pairs of keepers, or None. With many names, whether one shows it."""
    found = [((), *(start or (Plain(first), Plain(second))))]
    seen = {(found[0][1].key(), found[0][2].key())}
    for way, one, other in found:
        if one.mode != other.mode:
            return (way, "mode", None)
        for name in first.view_names:
            if one.view(name) != other.view(name):
                return (way, "view", name)
        steps = []
        for deed in deeds(first, names):
            here, there = one.copy(), other.copy()
            granted = here.do(*deed), there.do(*deed)
            if differs(*granted):
                return (way, "deed", deed)
            if all(granted) and (here.key(), there.key()) not in seen:
                seen.add((here.key(), there.key()))
                steps.append(((*way, deed), here, there))
        found.extend(steps)
    return None


def parts(here, there):
    return here != there


def falls(here, there):
    return there and not here


def pairs(seed, many):
    """Pairs of designs that can be compared."""
    chance = random.Random(seed)
    found = []
    for design in lively_designs(chance, many, views=1) + lively_designs(chance, many):
        found.append((design, mixed(chance, design)))
        if design.names:
            found.append((design, mixed(chance, changed(chance, design))))
            found.append((changed(chance, design), design))
    return found


class SampleTest(CloseCase):

    def test_answers(self):
        self.same(alike(SAMPLE, KEPT), False)
        self.same(alike(SAMPLE, sample_design()), True)
        self.same(stands_in(FREE, SAMPLE), True)
        self.same(stands_in(SAMPLE, FREE), False)
        self.same(parting(SAMPLE, KEPT), ((("invite", ("x",)), ("close", None), ("begin", None)), "view", "awaited"))
        self.same(falling(SAMPLE, FREE), ((("invite", ("x",)), ("enter", "x"), ("close", None)), "deed", ("begin", None)))
        self.assertIs(falling(FREE, SAMPLE), None)
        self.assertIs(parting(SAMPLE, SAMPLE), None)
        self.assertEqual((alike(second=KEPT, first=SAMPLE), parting(second=KEPT, first=SAMPLE)), (False, parting(SAMPLE, KEPT)))
        self.assertEqual((stands_in(second=FREE, first=SAMPLE), falling(second=FREE, first=SAMPLE)), (False, falling(SAMPLE, FREE)))

    def test_designs_that_differ_where_they_never_come(self):
        never = SAMPLE.with_call(("begin", "none", (("night", (("inside", "none"), ("invited", "none")), (), "day"),)))
        self.assertIs(alike(SAMPLE, never), True)
        self.assertIs(parting(never, SAMPLE), None)

    def test_a_mode(self):
        first = Design(("a",), ("m", "n"), (("t", "none", (("m", (), (), "n"),)), ADD), (("v", ("a", "a")),))
        second = Design(("a",), ("m", "n"), (("t", "none", (("m", (), (), "m"),)), ADD), (("v", ("a", "a")),))
        for act in (parting, falling):
            self.same(act(first, second), ((("t", None),), "mode", None))
            self.same(act(second, first), ((("t", None),), "mode", None))

    def test_the_mode_ahead_of_views_ahead_of_deeds(self):
        calls = (("p", "none", (("m", (), (), "n"),)), ("q", "one", (("m", (), (("a", "given"),), "m"),)))
        first = Design(("a",), ("m", "n"), calls, (("v", ("a", "a")), ("w", ("none", "a"))))
        views = Design(("a",), ("m", "n"), calls[:1] + (("q", "one", (("m", (("none", "a"),), (("a", "given"),), "m"),)),), (("w", ("a", "a")), ("v", ("none", "a"))))
        self.assertEqual(parting(first, views), ((("q", "x"),), "view", "v"))
        self.assertEqual(parting(views, first), ((("q", "x"),), "view", "w"))
        refuses = Design(("a",), ("m", "n"), (("p", "none", ()), ("q", "one", ())), first.views)
        self.assertEqual(parting(first, refuses), ((), "deed", ("p", None)))
        self.assertEqual(parting(refuses, first), ((), "deed", ("p", None)))
        self.assertIs(falling(first, refuses), None)
        self.assertEqual(falling(refuses, first), ((), "deed", ("p", None)))

    def test_histories_are_ordered_as_those_of_the_first_one(self):
        one, other = ("p", "many", (("m", (), (("a", ("|", "a", "given")),), "m"),)), ("q", "one", (("m", (), (("a", "given"),), "m"),))
        first = Design(("a",), ("m",), (one, other), (("v", ("a",)),))
        second = Design(("a",), ("m",), (other, one), (("v", ("none",)),))
        self.assertEqual(parting(first, second), ((("p", ("x",)),), "view", "v"))
        self.assertEqual(parting(second, first), ((("q", "x"),), "view", "v"))

    def test_without_calls_or_views(self):
        bare, other = Design(("a",), ("m",), (), ()), Design(("b", "c"), ("m",), (), ())
        self.assertEqual((alike(bare, other), parting(bare, other), stands_in(bare, other)), (True, None, True))
        quiet, loud = Design(("a",), ("m",), (ADD,), ()), Design(("z",), ("m",), (("p", "one", (("m", (), (), "m"),)),), ())
        self.assertEqual((alike(quiet, loud), falling(quiet, loud)), (True, None))


class PlainSearchTest(CloseCase):

    def test_as_a_plain_search(self):
        words = {None: 0, "mode": 0, "view": 0, "deed": 0}
        for first, second in pairs(90, 35):
            for act, answer, differs in ((parting, alike, parts), (falling, stands_in, falls)):
                due = plain_sign(first, second, ("x",), differs)
                self.assertEqual(act(first, second), due)
                self.same(answer(first, second), due is None)
                words[due[1] if due else None] += 1
        self.assertTrue(all(count > 10 for count in words.values()), words)

    def test_several_members_show_no_more(self):
        for first, second in pairs(91, 8):
            self.assertIs(alike(first, second), plain_sign(first, second, ("a", "b"), parts) is None)
            self.assertIs(stands_in(first, second), plain_sign(first, second, ("a", "b"), falls) is None)

    def test_keepers_with_many_members(self):
        chance = random.Random(92)
        names = ("ann", "bob", "cid", "dan")
        agreed = 0
        for first, second in pairs(93, 25):
            same, stands = alike(first, second), stands_in(first, second)
            keepers = play(first, ()), play(second, ())
            for _ in range(25):
                call, argument = any_deed(chance, first, names) if len(first) else (None, None)
                if call is None or not stands:
                    break
                argument = for_keeper(argument)
                here, there = keepers[0].can(call, argument), keepers[1].can(call, argument)
                self.assertTrue(here == there if same else here or not there)
                if here and there:
                    changes = [dict(keeper.do(call, argument)) for keeper in keepers]
                    self.assertEqual(changes[0], changes[1])
                    agreed += 1
                self.assertEqual(keepers[0].mode, keepers[1].mode)
                for view in first.view_names:
                    self.assertEqual(keepers[0].shown(view), keepers[1].shown(view))
        self.assertGreater(agreed, 200)

    def test_what_is_told_shows_it(self):
        for first, second in pairs(94, 25):
            found = parting(first, second)
            if found is None:
                continue
            way, word, what = found
            self.assertTrue(all(outcomes(first, way)) and all(outcomes(second, way)))
            one, other = play(first, way), play(second, way)
            if word == "mode":
                self.assertNotEqual(one.mode, other.mode)
                self.assertIs(what, None)
            elif word == "view":
                self.assertEqual(one.shown(what) ^ other.shown(what), Members("x"))
            else:
                self.assertIsNot(one.can(what[0], for_keeper(what[1])), other.can(what[0], for_keeper(what[1])))

    def test_alike_exactly_if_each_stands_in_for_the_other_one(self):
        found = set()
        for first, second in pairs(95, 30):
            both = (stands_in(first, second), stands_in(second, first))
            self.assertIs(alike(first, second), all(both))
            self.assertIs(alike(second, first), all(both))
            found.add(both)
        self.assertEqual(len(found), 4)

    def test_a_design_stands_in_for_a_stricter_one(self):
        chance = random.Random(96)
        parted = 0
        for design in lively_designs(chance, 60, views=1):
            for name, sort, cases in design.calls:
                if cases:
                    mode, facts, updates, after = cases[0]
                    fact = (form_without_given(chance, design.fields), form_without_given(chance, design.fields))
                    stricter = design.with_call((name, sort, ((mode, (fact,) + facts[:4], updates, after),) + cases[1:]))
                    less = design.with_call((name, sort, cases[1:]))
                    for other in (stricter, less):
                        self.assertIs(stands_in(design, mixed(chance, other)), True)
                        parted += not alike(design, other)
        self.assertGreater(parted, 20)

    def test_the_greatest_designs(self):
        chance = random.Random(97)
        design = great_design(chance)
        other = mixed(chance, design)
        self.assertEqual((alike(design, other), falling(other, design)), (True, None))
        second = great_design(chance)
        self.assertEqual(parting(design, second), plain_sign(design, second, ("x",), parts))


class RefusedTest(CloseCase):

    def test_no_design(self):
        for wrong in strange_values(Design):
            for act in (alike, stands_in, parting, falling):
                self.refused(NotADesign, {"value": wrong}, act, wrong, SAMPLE)
                self.refused(NotADesign, {"value": wrong}, act, wrong, 5)
                self.refused(NotADesign, {"value": wrong}, act, SAMPLE, wrong)
                self.refused(NotADesign, {"value": wrong}, act, ONE_FIELD, wrong)

    def test_not_comparable(self):
        base = Design(("a",), ("m", "n"), (("p", "one", ()), ("q", "none", ())), (("v", ("a", "a")), ("w", ("a", "a"))))
        others = [
            Design(("a",), ("n", "m"), base.calls, base.views), Design(("a",), ("m", "o"), base.calls, base.views),
            Design(("a",), ("m", "n", "o"), base.calls, (("v", ("a", "a", "a")), ("w", ("a", "a", "a")))),
            Design(("a",), ("m",), base.calls, (("v", ("a",)), ("w", ("a",)))),
            base.without("q"), base.with_call(("r", "one", ())), base.with_call(("p", "many", ())), base.without("q").with_call(("r", "none", ())),
            base.with_call(("p", "none", ())).with_call(("q", "one", ())),
            Design(("a",), ("m", "n"), base.calls, base.views[:1]), Design(("a",), ("m", "n"), base.calls, (("v", ("a", "a")), ("u", ("a", "a")))),
            Design(("a",), ("m", "n"), base.calls, ()), Design(("a",), ("m", "n"), base.calls, base.views + (("u", ("a", "a")),)),
        ]
        for other in others:
            for act in (alike, stands_in, parting, falling):
                self.refused(NotComparable, {}, act, base, other)
                self.refused(NotComparable, {}, act, other, base)
        same = Design(("b", "c"), ("m", "n"), base.calls[::-1], (("w", ("b", "b")), ("v", ("c", "b"))))
        self.assertIs(alike(base, same), True)
