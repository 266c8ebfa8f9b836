"""Promises about designs side by side, and fields that are made one (points 9, 10 and 12)."""

import itertools
import random

from onemember.alike import alike
from onemember.deciding import nodes
from onemember.designs import Design
from onemember.errors import NotADesign, NotComparable, TooManyCalls, TooManyFacts, TooManyFields, TooManyViews, UnknownField
from onemember.joining import beside, merged
from onemember.samples import sample_design
from tests.helper import CloseCase, strange_values
from tests.plain import Plain, any_design, deeds, lively_designs, plain_ways

SAMPLE = sample_design()
MARK = ("mark", "one", (("m", (), (("a", ("|", "a", "given")),), "m"),))
TWIN = ("mark", "one", (("m", (("given", "none"),), (), "m"),))
FIRST = Design(("a",), ("m",), (MARK,), ())
SECOND = Design(("b",), ("m",), (TWIN,), (("seen", ("b",)),))


def design_of(fields="b", modes=("m",), calls=(), views=()):
    """A design with fields named by single letters."""
    return Design(tuple(fields), modes, tuple(calls), tuple(views))


def any_pair(chance):
    """Two designs that can stand side by side, with calls of both, or None."""
    first = any_design(chance, fields=2, calls=3)
    second = any_design(chance, fields=2, modes=1, calls=3)
    names = dict(zip(second.fields, ("f", "g")))
    second = second.renamed(tuple(names.items()))
    views = tuple(("z" + name[:3], forms) for name, forms in second.views)
    calls = tuple(call for call in second.calls if call[0] not in first or first.sort_of(call[0]) == call[1])
    return first, Design(second.fields, second.modes, calls, views)


def grants(designs, keepers, deed):
    """Whether two plain keepers do a deed side by side; they are as they are behind it."""
    asked = [(design, keeper) for design, keeper in zip(designs, keepers) if deed[0] in design]
    if not all(keeper.copy().do(*deed) for _, keeper in asked):
        return False
    return all(keeper.do(*deed) for _, keeper in asked)


class BesideTest(CloseCase):

    def test_the_printed_one(self):
        both = beside(FIRST, SECOND)
        self.assertEqual((both.fields, both.modes, both.view_names, nodes(both)), (("a", "b"), ("m",), ("seen",), (("m", ()),)))
        self.assertEqual(both.calls, (("mark", "one", (("m", (("given", "none"),), (("a", ("|", "a", "given")),), "m"),)),))
        self.assertEqual(beside(second=SECOND, first=FIRST), both)

    def test_calls_of_one_of_them_and_of_both(self):
        first = design_of("ab", ("m", "n"), (
            ("p", "none", (("n", (("a", "none"),), (("a", "b"),), "m"),)),
            ("q", "many", (("n", (("given", "a"),), (("a", "given"),), "m"), ("m", (), (), "n"))),
            ("r", "one", (("m", (), (), "m"),)), ("s", "none", ()),
        ), (("v", ("a", "b")),))
        second = design_of("cd", ("k",), (
            ("t", "many", (("k", (("c", "given"),), (("d", "c"),), "k"),)),
            ("q", "many", (("k", (("d", "none"), ("c", "c")), (("c", ("|", "c", "given")),), "k"),)),
            ("r", "one", ()), ("s", "none", (("k", (), (), "k"),)), ("u", "one", ()),
        ), (("w", ("c",)), ("k", (("&", "c", "d"),))))
        self.assertEqual(beside(first, second), Design(("a", "b", "c", "d"), ("m", "n"), (
            ("p", "none", (("n", (("a", "none"),), (("a", "b"),), "m"),)),
            ("q", "many", (
                ("n", (("given", "a"), ("d", "none"), ("c", "c")), (("a", "given"), ("c", ("|", "c", "given"))), "m"),
                ("m", (("d", "none"), ("c", "c")), (("c", ("|", "c", "given")),), "n"))),
            ("r", "one", ()), ("s", "none", ()),
            ("t", "many", (("m", (("c", "given"),), (("d", "c"),), "m"), ("n", (("c", "given"),), (("d", "c"),), "n"))),
            ("u", "one", ()),
        ), (("v", ("a", "b")), ("w", ("c", "c")), ("k", (("&", "c", "d"), ("&", "c", "d"))))))

    def test_the_sample(self):
        late = design_of("l", ("any",), (("enter", "one", (("any", (("given", "l"),), (), "any"),)), ("allow", "many", (("any", (), (("l", "given"),),
                "any"),))))
        both = beside(SAMPLE, late)
        self.assertEqual(both.case_of("enter", "day"), ("day", (("given", "invited"), ("given", "l")), (("inside", ("|", "inside", "given")),), "day"))
        self.assertEqual([both.case_of("allow", mode) for mode in ("day", "night")], [("day", (), (("l", "given"),), "day"), ("night", (), (("l",
                "given"),), "night")])
        self.assertEqual(both.names, SAMPLE.names + ("allow",))

    def test_without_calls_and_views(self):
        self.assertEqual(beside(design_of("a"), design_of("b", ("n",))), design_of("ab"))

    def test_keepers_side_by_side(self):
        chance = random.Random(160)
        both_granted = 0
        for _ in range(60):
            designs = any_pair(chance)
            joint = beside(*designs)
            keepers, keeper = [Plain(design) for design in designs], Plain(joint)
            for _ in range(25):
                if not joint.calls:
                    break
                deed = chance.choice(deeds(joint, ("x", "y", "z")))
                granted = grants(designs, keepers, deed)
                self.assertEqual(keeper.do(*deed), granted)
                both_granted += granted and all(deed[0] in design for design in designs)
                self.assertEqual(keeper.mode, keepers[0].mode)
                self.assertEqual(keeper.sets, {**keepers[0].sets, **keepers[1].sets})
                for design, other in zip(designs, keepers):
                    self.assertEqual([keeper.view(view) for view in design.view_names], [other.view(view) for view in design.view_names])
        self.assertGreater(both_granted, 40)


class NotBesideTest(CloseCase):

    def test_no_design(self):
        for wrong in strange_values(Design) + [str(SAMPLE)]:
            self.refused(NotADesign, {"value": wrong}, beside, wrong, SECOND)
            self.refused(NotADesign, {"value": wrong}, beside, wrong, 5)
            self.refused(NotADesign, {"value": wrong}, beside, FIRST, wrong)

    def test_not_comparable(self):
        several = design_of("b", ("m", "n"))
        self.refused(NotComparable, {}, beside, FIRST, several)
        self.refused(NotComparable, {}, beside, several, several)
        self.refused(NotComparable, {}, beside, FIRST, design_of("ba"))
        self.refused(NotComparable, {}, beside, SECOND, design_of("a", views=(("seen", ("a",)),)))
        for sort in ("many", "none"):
            self.refused(NotComparable, {}, beside, FIRST, design_of("b", calls=(("p", "one", ()), ("mark", sort, ()))))
        # A name may be that of a field in one of them, of a view, a mode or a call in the other one.
        self.assertEqual(beside(design_of("a", ("b",), (("v", "one", ()),)), design_of("b", ("a",), (("a", "one", ()),), (("a", ("b",)),))).names, ("v", "a"))

    def test_not_comparable_ahead_of_the_limits(self):
        great = design_of("abcd", ("m",), [(f"c{at}", "one", ()) for at in range(8)], [(f"v{at}", ("a",)) for at in range(4)])
        self.refused(NotComparable, {}, beside, great, great)
        self.refused(NotComparable, {}, beside, great, design_of("ef", ("m",), (("c7", "many", ()),)))
        self.refused(NotComparable, {}, beside, great, design_of("ef", ("m",), (), (("v3", ("e",)),)))

    def test_limits_in_their_order(self):
        calls = [("p", "one", (("m", (("given", "given"),) * 3, (), "m"),))]
        first = design_of("abc", ("m",), calls + [(f"c{at}", "one", ()) for at in range(6)], [(f"v{at}", ("a",)) for at in range(3)])
        for fields, others, views, many in itertools.product((1, 2), (1, 2), (1, 2), (2, 3)):
            second = design_of("de"[:fields], ("m",), [("p", "one", (("m", (("given", "given"),) * many, (), "m"),))] + [(f"d{at}", "one",
                    ()) for at in range(others)],
                               [(f"w{at}", ("d",)) for at in range(views)])
            due = (TooManyFields, 4) if fields == 2 else (TooManyCalls, 8) if others == 2 else (TooManyViews, 4) if views == 2 else (TooManyFacts,
                    5) if many == 3 else None
            if due:
                self.refused(due[0], {"limit": due[1]}, beside, first, second)
            else:
                self.assertEqual((len(beside(first, second)), len(beside(first, second).case_of("p", "m")[1])), (8, 5))

    def test_facts_count_only_where_there_is_a_case_of_both(self):
        facts = (("given", "given"),) * 5
        first = design_of("a", ("m", "n"), (("p", "one", (("n", facts, (), "n"),)),))
        self.assertEqual(beside(first, design_of("b", ("k",), (("p", "one", ()), ("q", "one", (("k", facts, (), "k"),))))).calls, (
            ("p", "one", ()), ("q", "one", (("m", facts, (), "m"), ("n", facts, (), "n")))))
        self.refused(TooManyFacts, {"limit": 5}, beside, first, design_of("b", ("k",), (("p", "one", (("k", facts[:1], (), "k"),)),)))
        self.assertEqual(beside(design_of("a", ("m",), (("p", "one", ()),)), design_of("b", ("k",), (("p", "one", (("k", facts, (), "k"),)),))).calls,
                (("p", "one", ()),))


def twinned(chance, design, field, twin):
    """The design with one field more that is always equal to a field, and that stands for it here and there."""
    def mixed(form):
        if isinstance(form, str):
            return chance.choice((field, twin)) if form == field else form
        return (form[0], mixed(form[1]), mixed(form[2]))

    calls = []
    for name, sort, cases in design.calls:
        changed = []
        for mode, facts, updates, after in cases:
            facts = tuple((mixed(left), mixed(right)) for left, right in facts)
            behind = [(one, mixed(form)) for one, form in updates] + [(twin, mixed(form)) for one, form in updates if one == field]
            chance.shuffle(behind)
            changed.append((mode, facts, tuple(behind), after))
        calls.append((name, sort, tuple(changed)))
    fields = list(design.fields)
    fields.insert(chance.randint(0, len(fields)), twin)
    return Design(tuple(fields), design.modes, tuple(calls), tuple((name, tuple(mixed(form) for form in forms)) for name, forms in design.views))


class MergedTest(CloseCase):

    def test_names_and_places(self):
        updates = (("c", ("|", "c", "given")), ("b", "given"), ("a", ("&", "given", "given")))
        design = design_of("abc", ("m",), (
            ("p", "one", (("m", (("a", "b"), (("-", "c", "a"), "none")), updates, "m"),)),
            ("q", "none", (("m", (), (("b", ("&", "a", "b")), ("a", ("|", "b", "a"))), "m"),)),
        ), (("v", (("^", "b", ("-", "c", "a")),)),))
        self.assertEqual(merged(design, "a", "b"), design_of("ac", ("m",), (
            ("p", "one", (("m", (("a", "a"), (("-", "c", "a"), "none")), (("c", ("|", "c", "given")), ("a", ("&", "given", "given"))), "m"),)),
            ("q", "none", (("m", (), (("a", ("|", "a", "a")),), "m"),)),
        ), (("v", (("^", "a", ("-", "c", "a")),)),)))
        self.assertEqual(merged(design, "b", "a"), design_of("bc", ("m",), (
            ("p", "one", (("m", (("b", "b"), (("-", "c", "b"), "none")), (("c", ("|", "c", "given")), ("b", "given")), "m"),)),
            ("q", "none", (("m", (), (("b", ("&", "b", "b")),), "m"),)),
        ), (("v", (("^", "b", ("-", "c", "b")),)),)))
        self.assertEqual(merged(other="b", one="a", design=design), merged(design, "a", "b"))

    def test_any_designs(self):
        chance = random.Random(161)
        for design in lively_designs(chance, 50, views=1) + lively_designs(chance, 20):
            field = chance.choice(design.fields)
            twin = twinned(chance, design, field, "twin")
            self.assertEqual(merged(twin, field, "twin"), Design(tuple(one for one in twin.fields if one != "twin"), *parts_of(twin, field)))
            less, other = merged(twin, field, "twin"), merged(twin, "twin", field)
            self.assertEqual([set(one) for one in (less.fields, other.fields)], [set(design.fields), set(design.fields) - {field} | {"twin"}])
            self.assertIs(alike(design, less) and alike(design, other) and alike(design, twin), True)
            self.assertEqual(set(node_names(less)), set(node_names(design)))
            self.assertEqual(other.renamed((("twin", field),)).fields, tuple(field if one == "twin" else one for one in twin.fields if one != field))

    def test_exactly_those_that_are_always_equal(self):
        chance = random.Random(162)
        counts = {True: 0, False: 0}
        for design in lively_designs(chance, 60, fields=2, least=2) + lively_designs(chance, 60, fields=3):
            ways = plain_ways(design, ("x", "y"))
            for one, other in itertools.permutations(design.fields, 2):
                equal = all(keeper.sets[one] == keeper.sets[other] for _, keeper in ways)
                counts[equal] += 1
                if equal:
                    self.assertIs(alike(design, merged(design, one, other)), True)
                else:
                    self.refused(NotComparable, {}, merged, design, one, other)
        self.assertGreater(min(counts.values()), 10, counts)

    def test_fields_that_differ_where_nobody_comes(self):
        calls = (("p", "one", (("m", (), (("a", "given"), ("b", "given")), "m"),)), ("q", "one", (("n", (), (("a", "given"),), "n"),)))
        design = design_of("ab", ("m", "n"), calls)
        self.assertEqual(merged(design, "a", "b").calls, (
            ("p", "one", (("m", (), (("a", "given"),), "m"),)), ("q", "one", (("n", (), (("a", "given"),), "n"),))))
        self.refused(NotComparable, {}, merged, design_of("ab", ("n", "m"), calls), "a", "b")

    def test_wrong_inputs(self):
        for wrong in strange_values(Design) + [str(SAMPLE)]:
            self.refused(NotADesign, {"value": wrong}, merged, wrong, "inside", "invited")
            self.refused(NotADesign, {"value": wrong}, merged, wrong, 5, 5)
        for wrong in ["", "Inside", "guests", "day", "given", "none", ("inside",)] + strange_values():
            self.refused(UnknownField, {"value": wrong}, merged, SAMPLE, wrong, "inside")
            self.refused(UnknownField, {"value": wrong}, merged, SAMPLE, wrong, "zed")
            self.refused(UnknownField, {"value": wrong}, merged, SAMPLE, "inside", wrong)
        for field in SAMPLE.fields:
            self.refused(NotComparable, {}, merged, SAMPLE, field, field)
        self.refused(NotComparable, {}, merged, SAMPLE, "inside", "invited")
        still = design_of("ab")
        self.refused(NotComparable, {}, merged, still, "a", "a")
        self.assertEqual(merged(still, "b", "a"), design_of("b"))


def parts_of(design, field):
    """The modes, calls and views of a design in which the field stands for its twin."""
    def single(form):
        if isinstance(form, str):
            return field if form == "twin" else form
        return (form[0], single(form[1]), single(form[2]))

    calls = tuple((name, sort, tuple(
        (mode, tuple((single(left), single(right)) for left, right in facts), tuple((one, single(form)) for one, form in updates if one != "twin"), after)
        for mode, facts, updates, after in cases)) for name, sort, cases in design.calls)
    return design.modes, calls, tuple((name, tuple(single(form) for form in forms)) for name, forms in design.views)


def node_names(design):
    """The nodes, each with its fields in the order of their names."""
    return [(mode, tuple(sorted(inside))) for mode, inside in nodes(design)]
