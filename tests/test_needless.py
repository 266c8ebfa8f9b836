"""Promises about what is needless, designs without it, and fields that are derived (point 22)."""

import random

from onemember.alike import alike
from onemember.deciding import nodes
from onemember.designs import Design
from onemember.errors import NotADesign, UnknownField
from onemember.expressions import Expression
from onemember.needless import derived, needless, pruned
from onemember.samples import sample_design
from tests.helper import CloseCase, strange_values, who
from tests.plain import any_design, deeds, great_design, lively_designs, plain_ways
from tests.test_least import BARE, COUNT

SAMPLE = sample_design()
COME = ("come", "one", (
    ("m", (("none", "given"),), (("a", ("|", "a", "given")), ("b", ("|", "a", "given"))), "m"), ("n", (), (), "n")))
DESIGN = Design(("a", "b"), ("m", "n"), (COME,), ())


def plain_needless(design, names):
    """The rows of what is needless, found in all keepers with these names."""
    keepers = [keeper for _, keeper in plain_ways(design, names)]
    found = []
    for call, sort, cases in design.calls:
        for case in cases:
            found.extend(plain_rows(call, case, [
                (keeper, {argument} if sort == "one" else set(argument or ()))
                for keeper in keepers if keeper.mode == case[0] for _, argument in deeds(design, names, only=(call,))
            ], sort))
    return tuple(found)


def plain_rows(call, case, tries, sort):
    """The rows of a case, of which the pairs of a keeper and what is given are told in which it is tried."""
    mode, facts, updates, _ = case

    def kept(keeper, given, left, right):
        wrong = who(left, keeper.sets, given) - who(right, keeper.sets, given)
        return not (wrong & given if sort == "one" else wrong)

    granted = [(keeper, given) for keeper, given in tries if all(kept(keeper, given, *fact) for fact in facts)]
    if not granted:
        return [("case", call, mode)]
    found = []
    for at, fact in enumerate(facts):
        others = facts[:at] + facts[at + 1:]
        if all(kept(keeper, given, *fact) for keeper, given in tries if all(kept(keeper, given, *other) for other in others)):
            found.append(("fact", call, mode, at))
    for field, form in updates:
        if all(same_in(keeper, given, field, form, sort) for keeper, given in granted):
            found.append(("update", call, mode, field))
    return found


def same_in(keeper, given, field, form, sort):
    """Whether an update leaves the field as it is."""
    changed = who(form, keeper.sets, given) ^ keeper.sets[field]
    return not (changed & given if sort == "one" else changed)


def without_row(design, row):
    """The design without what a row of needless tells."""
    word, name, mode, *which = row
    calls = []
    for call, sort, cases in design.calls:
        if call == name:
            cases = tuple(case if case[0] != mode else without_part(case, word, which) for case in cases)
        calls.append((call, sort, tuple(case for case in cases if case)))
    return Design(design.fields, design.modes, tuple(calls), design.views)


def without_part(case, word, which):
    mode, facts, updates, after = case
    if word == "case":
        return None
    if word == "fact":
        return (mode, facts[:which[0]] + facts[which[0] + 1:], updates, after)
    return (mode, facts, tuple(update for update in updates if update[0] != which[0]), after)


def plain_pruned(design):
    """The design without the first needless row, again and again."""
    rows = plain_needless(design, ("x",))
    while rows:
        design = without_row(design, rows[0])
        rows = plain_needless(design, ("x",))
    return design


class NeedlessTest(CloseCase):

    def test_the_printed_one(self):
        self.same(needless(DESIGN), (("fact", "come", "m", 0), ("case", "come", "n")))
        self.assertEqual(needless(design=DESIGN), needless(DESIGN))
        self.same(needless(SAMPLE), ())
        self.same(needless(BARE), ())

    def test_of_two_equal_facts_both_are(self):
        fact = ("given", "b")
        call = ("p", "one", (("m", (fact, fact, ("none", "a")), (("a", "given"),), "m"),))
        add = ("q", "one", (("m", (), (("b", ("|", "b", "given")),), "m"),))
        design = Design(("a", "b"), ("m",), (call, add), ())
        self.same(needless(design), (("fact", "p", "m", 0), ("fact", "p", "m", 1), ("fact", "p", "m", 2)))
        self.assertEqual(pruned(design).case_of("p", "m"), ("m", (fact,), (("a", "given"),), "m"))

    def test_facts_that_follow_from_one_another(self):
        facts = (("given", "a"), ("given", ("|", "a", "b")), ("given", "b"), ("given", ("&", "a", "b")))
        adds = tuple((name, "one", (("m", (), ((name, ("|", name, "given")),), "m"),)) for name in "ab")
        # The last one follows from those of both fields, and each of the other ones from it.
        for order, due, left in (
            ((0, 1), [1], (0,)), ((1, 0), [0], (0,)), ((0, 2), [], (0, 2)), ((0, 1, 2), [1], (0, 2)), ((1, 3), [0], (3,)),
            ((0, 2, 3), [0, 1, 2], (3,)), ((3, 0, 2, 1), [0, 1, 2, 3], (0, 2)), ((1, 3, 0), [0, 2], (3,)),
        ):
            call = ("p", "one", (("m", tuple(facts[at] for at in order), (("a", ("-", "a", "given")),), "m"),))
            design = Design(("a", "b"), ("m",), (*adds, call), ())
            self.assertEqual(needless(design), tuple(("fact", "p", "m", at) for at in due))
            self.assertEqual(pruned(design).case_of("p", "m")[1], tuple(facts[at] for at in left))

    def test_updates_and_cases(self):
        calls = (
            ("p", "one", (("m", (), (("a", "a"), ("b", ("|", "b", "given")), ("c", ("&", "given", "c"))), "m"), ("n", (), (), "n"))),
            ("q", "many", (("n", (("a", "none"),), (("a", "none"),), "m"), ("m", (("b", "a"),), (("b", ("&", "b", "a")), ("a", "given")), "m"))),
            ("r", "one", (("m", (("given", "none"),), (("a", "given"),), "m"),)),
            ("s", "none", (("m", (("b", "c"),), (("b", "a"), ("c", "b")), "m"),)),
        )
        design = Design(("a", "b", "c"), ("m", "n"), calls, ())
        self.same(needless(design), (
            ("update", "p", "m", "a"), ("update", "p", "m", "c"), ("case", "p", "n"),
            ("case", "q", "n"), ("update", "q", "m", "b"), ("case", "r", "m"), ("update", "s", "m", "c")))
        less = pruned(design)
        self.assertEqual(less.calls, (
            ("p", "one", (("m", (), (("b", ("|", "b", "given")),), "m"),)),
            ("q", "many", (("m", (("b", "a"),), (("a", "given"),), "m"),)), ("r", "one", ()),
            ("s", "none", (("m", (("b", "c"),), (("b", "a"),), "m"),))))

    def test_as_all_keepers_of_two_members_tell(self):
        chance = random.Random(150)
        words = {}
        for design in lively_designs(chance, 60, fields=2, free=0.3) + lively_designs(chance, 20, fields=3, free=0.2) + [DESIGN, SAMPLE]:
            found = needless(design)
            self.assertEqual(found, plain_needless(design, ("x", "y")))
            self.assertEqual(found, plain_needless(design, ("x",)))
            for word in [row[0] for row in found]:
                words[word] = words.get(word, 0) + 1
        self.assertGreater(min(words.get(word, 0) for word in ("case", "fact", "update")), 20, words)

    def test_what_is_left_out_changes_nothing(self):
        chance = random.Random(151)
        for design in lively_designs(chance, 40, free=0.3):
            for row in needless(design):
                less = without_row(design, row)
                self.assertIs(alike(design, less), True)
                self.assertEqual(nodes(less), nodes(design))


class PrunedTest(CloseCase):

    def test_the_printed_one(self):
        self.assertEqual(pruned(DESIGN).calls, (
            ("come", "one", (("m", (), (("a", ("|", "a", "given")), ("b", ("|", "a", "given"))), "m"),)),))
        self.assertEqual(pruned(SAMPLE), SAMPLE)
        self.assertEqual(pruned(design=BARE), BARE)

    def test_any_designs(self):
        chance = random.Random(152)
        for design in lively_designs(chance, 60, free=0.3) + [any_design(chance) for _ in range(40)]:
            less = pruned(design)
            self.assertEqual(less, plain_pruned(design))
            self.assertEqual(needless(less), ())
            self.assertIs(alike(design, less), True)
            self.assertEqual(nodes(less), nodes(design))

    def test_the_greatest_designs(self):
        design = great_design(random.Random(153))
        less = pruned(design)
        self.assertEqual(needless(less), ())
        self.assertIs(alike(design, less), True)
        rows = needless(design)
        self.assertEqual(rows, plain_needless(design, ("x",)))
        self.assertEqual(pruned(without_row(design, rows[0])), less)


class DerivedTest(CloseCase):

    def check(self, design, field):
        """The expression, or None, as the nodes of a plain search tell; whether there is one."""
        found = derived(design, field)
        seen = {}
        for _, keeper in plain_ways(design, ("x",)):
            inside = keeper.inside("x")
            seen.setdefault(tuple(one for one in inside if one != field), set()).add(field in inside)
        due = all(len(flags) == 1 for flags in seen.values()) and True not in seen[()]
        self.assertEqual(found is not None, due)
        if found is not None:
            self.assertIs(found.__class__, Expression)
            self.assertEqual((found.has_given, set(found.fields) <= set(design.fields) - {field}), (False, True))
            for _, keeper in plain_ways(design, ("x",)):
                self.assertEqual(keeper.who(found.form), keeper.sets[field])
        return due

    def test_the_printed_one(self):
        self.assertEqual(derived(DESIGN, "b").fields, ("a",))
        self.assertEqual(derived(field="a", design=DESIGN).fields, ("b",))
        self.assertIs(derived(SAMPLE, "inside"), None)
        self.assertIs(derived(SAMPLE, "invited"), None)

    def test_fields_that_are_always_empty(self):
        for design in (BARE, Design(("a",), ("m",), (), ()), Design(("a", "b"), ("m",), (("p", "one", (("m", (), (("b", "given"),), "m"),)),), ())):
            self.assertIs(self.check(design, "a"), True)

    def test_a_field_alone(self):
        design = Design(("a",), ("m",), (("p", "one", (("m", (), (("a", "given"),), "m"),)),), ())
        self.assertIs(derived(design, "a"), None)

    def test_four_fields(self):
        self.assertEqual([derived(Design(("a", "b", "c", "d"), ("m",), (COUNT,), ()), field) for field in "abcd"], [None] * 4)
        updates = (("a", ("^", "a", "given")), ("b", ("^", "b", ("&", "a", "given"))), ("c", ("^", "c", ("&", ("&", "a", "b"), "given"))))
        # The last field tells who is in two or three of the other ones, behind the deed.
        behind = dict(updates)
        most = ("|", ("|", ("&", behind["a"], behind["b"]), ("&", behind["a"], behind["c"])), ("&", behind["b"], behind["c"]))
        design = Design(("a", "b", "c", "d"), ("m",), (("p", "one", (("m", (), updates + (("d", most),), "m"),)),), ())
        self.assertEqual([self.check(design, field) for field in "abcd"], [False, False, False, True])

    def test_any_designs(self):
        chance = random.Random(154)
        counts = {True: 0, False: 0}
        for design in lively_designs(chance, 80) + lively_designs(chance, 20, fields=4, least=5) + [any_design(chance) for _ in range(30)]:
            for field in design.fields:
                counts[self.check(design, field)] += 1
        self.assertGreater(min(counts.values()), 30, counts)

    def test_the_greatest_designs(self):
        design = great_design(random.Random(155))
        for field in design.fields:
            self.check(design, field)


class RefusedTest(CloseCase):

    def test_no_design(self):
        for wrong in strange_values(Design) + [str(SAMPLE)]:
            self.refused(NotADesign, {"value": wrong}, needless, wrong)
            self.refused(NotADesign, {"value": wrong}, pruned, wrong)
            self.refused(NotADesign, {"value": wrong}, derived, wrong, "inside")
            self.refused(NotADesign, {"value": wrong}, derived, wrong, 5)

    def test_unknown_fields(self):
        for wrong in ["", "Inside", "guests", "day", "given", "none", ("inside",)] + strange_values():
            self.refused(UnknownField, {"value": wrong}, derived, SAMPLE, wrong)
