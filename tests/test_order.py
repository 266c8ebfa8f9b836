"""Promises about two calls that commute (point 19)."""

import itertools
import random

from onemember.designs import Design
from onemember.errors import NotADesign, UnknownCall
from onemember.histories import play
from onemember.order import commute, disorder
from onemember.samples import sample_design
from tests.helper import CloseCase, strange_values, told
from tests.plain import Plain, all_ways, deeds, great_design, lively_designs, plain_ways
from tests.test_keepers import for_keeper

SAMPLE = sample_design()


def behind(keeper, *some):
    """The state of a plain keeper behind deeds, or None if one is refused."""
    later = keeper.copy()
    return later.key() if all(later.do(*deed) for deed in some) else None


def plain_disorder(design, first, second):
    """The first triple of a plain search, or None."""
    for way, keeper in plain_ways(design, ("x",)):
        for one, other in itertools.product(deeds(design, ("x",), only=(first,)), deeds(design, ("x",), only=(second,))):
            if behind(keeper, one, other) != behind(keeper, other, one):
                return (way, one[1], other[1])
    return None


class SampleTest(CloseCase):

    def test_answers(self):
        self.same(commute(SAMPLE, "invite", "leave"), True)
        self.same(commute(SAMPLE, "close", "begin"), False)
        self.assertIs(disorder(SAMPLE, "invite", "leave"), None)
        self.same(disorder(SAMPLE, "enter", "leave"), ((("invite", ("x",)),), "x", "x"))
        self.same(disorder(SAMPLE, "invite", "enter"), ((), ("x",), "x"))
        self.assertEqual(disorder(second="enter", first="invite", design=SAMPLE), disorder(SAMPLE, "invite", "enter"))
        self.assertIs(commute(second="leave", first="invite", design=SAMPLE), True)

    def test_the_other_way_round(self):
        self.assertEqual(disorder(SAMPLE, "enter", "invite"), ((), "x", ("x",)))
        self.assertEqual(disorder(SAMPLE, "leave", "enter"), ((("invite", ("x",)),), "x", "x"))
        self.assertEqual(disorder(SAMPLE, "close", "begin"), ((), None, None))
        self.assertEqual(disorder(SAMPLE, "begin", "close"), ((), None, None))

    def test_each_with_itself(self):
        self.assertEqual([commute(SAMPLE, name, name) for name in SAMPLE.names], [True] * 5)
        only = Design(("a",), ("m",), (("p", "many", (("m", (), (("a", "given"),), "m"),)),), ())
        self.assertEqual(disorder(only, "p", "p"), ((), (), ("x",)))

    def test_the_first_arguments(self):
        calls = (("p", "many", (("m", (), (("a", "given"),), "m"),)), ("q", "many", (("m", (), (("a", ("|", "a", "given")),), "m"),)))
        design = Design(("a",), ("m",), calls, ())
        self.assertEqual(disorder(design, "p", "q"), ((), (), ("x",)))
        self.assertEqual(disorder(design, "q", "p"), ((), ("x",), ()))

    def test_calls_that_are_never_granted_one_after_another(self):
        calls = (
            ("p", "none", (("m", (), (("a", "none"),), "n"),)), ("q", "none", (("m", (), (("a", "b"),), "n"),)), ("r", "many", ()),
            ("s", "one", (("m", (("given", "a"),), (), "m"),)),
        )
        design = Design(("a", "b"), ("m", "n"), calls, ())
        for one, other in itertools.product(("p", "q", "r"), repeat=2):
            self.assertIs(commute(design, one, other), True)
        self.assertIs(commute(design, "p", "s"), True)

    def test_a_different_mode_alone(self):
        calls = (
            ("p", "none", (("m", (), (), "n"), ("n", (), (), "n"), ("o", (), (), "n"))),
            ("q", "none", (("m", (), (), "o"), ("n", (), (), "o"), ("o", (), (), "o"))),
        )
        design = Design(("a",), ("m", "n", "o"), calls, ())
        self.assertEqual(disorder(design, "p", "q"), ((), None, None))


class PlainSearchTest(CloseCase):

    def test_as_a_plain_search_for_all_pairs(self):
        chance = random.Random(110)
        counts = {}
        for design in lively_designs(chance, 60) + [SAMPLE]:
            for first, second in itertools.product(design.names, repeat=2):
                due = plain_disorder(design, first, second)
                self.assertEqual(disorder(design, first, second), due)
                self.same(commute(design, first, second), due is None)
                self.assertIs(commute(design, second, first), due is None)
                sorts = tuple(sorted((design.sort_of(first), design.sort_of(second))))
                counts[sorts, due is None] = counts.get((sorts, due is None), 0) + 1
        # Two calls of the sort one, and one of the sort one beside any other one, part as well as commute.
        self.assertEqual(len(counts), 12, counts)

    def test_many_members_and_any_names(self):
        chance = random.Random(111)
        names = ("a", "b", "c")
        for design in lively_designs(chance, 15):
            pairs = [(first, second) for first, second in itertools.product(design.names, repeat=2) if commute(design, first, second)]
            for _, keeper in all_ways(design, names[:2], 2):
                for first, second in pairs:
                    for one, other in itertools.product(deeds(design, names, only=(first,)), deeds(design, names, only=(second,))):
                        self.assertEqual(behind(keeper, one, other), behind(keeper, other, one))

    def test_what_is_told_shows_it_with_keepers(self):
        chance = random.Random(112)
        shown = 0
        for design in lively_designs(chance, 30):
            for first, second in itertools.product(design.names, repeat=2):
                found = disorder(design, first, second)
                if found is not None:
                    way, one, other = found
                    shown += 1
                    ends = [self.end(design, way, (first, one), (second, other)), self.end(design, way, (second, other), (first, one))]
                    self.assertNotEqual(ends[0], ends[1])
        self.assertGreater(shown, 40)

    def end(self, design, way, *some):
        """The state behind deeds of a keeper, or None if one is refused."""
        keeper = play(design, way)
        for call, argument in some:
            if not keeper.can(call, for_keeper(argument)):
                return None
            keeper.do(call, for_keeper(argument))
        return told(keeper.state)

    def test_the_greatest_designs(self):
        design = great_design(random.Random(113))
        for first, second in itertools.product(design.names, repeat=2):
            found = disorder(design, first, second)
            if found is None:
                continue
            way, one, other = found
            keeper = Plain(design)
            self.assertTrue(all(keeper.do(*deed) for deed in way))
            self.assertNotEqual(behind(keeper, (first, one), (second, other)), behind(keeper, (second, other), (first, one)))
        self.assertEqual(disorder(design, "c1", "c2"), plain_disorder(design, "c1", "c2"))


class RefusedTest(CloseCase):

    def test_no_design(self):
        for wrong in strange_values(Design):
            for act in (commute, disorder):
                self.refused(NotADesign, {"value": wrong}, act, wrong, "enter", "leave")
                self.refused(NotADesign, {"value": wrong}, act, wrong, 5, 5)

    def test_unknown_calls(self):
        for wrong in ["", "Enter", "guests", "day", "inside"] + strange_values():
            for act in (commute, disorder):
                self.refused(UnknownCall, {"value": wrong}, act, SAMPLE, wrong, "leave")
                self.refused(UnknownCall, {"value": wrong}, act, SAMPLE, wrong, 5)
                self.refused(UnknownCall, {"value": wrong}, act, SAMPLE, "leave", wrong)
