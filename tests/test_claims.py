"""Promises about all that is told beside keepers (points 11 to 16): no keeper behind any deeds contradicts it."""

import random

from onemember.deciding import always, apart, been, bounded, breaking, comes, growing, meeting, nodes, stays
from onemember.designs import Design
from onemember.expressions import Expression, Fact
from onemember.histories import play
from onemember.keepers import Keeper
from onemember.members import Members
from onemember.samples import sample_design
from tests.helper import CloseCase
from tests.plain import any_deed, form_without_given, great_design, lively_designs
from tests.test_keepers import for_keeper

NAMES = ("ann", "bob", "cid", "dan", "x")


def keepers(chance, design, names, many):
    """The states of a keeper behind deeds by chance, those that are refused left out."""
    keeper = Keeper(design)
    yield keeper
    for _ in range(many):
        call, argument = any_deed(chance, design, names)
        if keeper.can(call, for_keeper(argument)):
            keeper.do(call, for_keeper(argument))
            yield keeper


class ClaimsTest(CloseCase):

    def test_any_keepers(self):
        chance = random.Random(120)
        held = 0
        for design in lively_designs(chance, 60) + [sample_design()]:
            parts = [Expression(form_without_given(chance, design.fields)) for _ in range(5)]
            held += self.check(chance, design, parts, 25)
        self.assertGreater(held, 3000)

    def test_the_greatest_designs(self):
        chance = random.Random(121)
        for _ in range(2):
            design = great_design(chance)
            self.check(chance, design, [Expression(text) for text in design.fields[:3]], 15)

    def check(self, chance, design, parts, many):
        """How often something that is told held in a keeper."""
        told = [(mode, one, other, self.claims(design, mode, one, other))
                for mode in (None,) + design.modes for one in parts for other in parts]
        past = [(one, other, been(one, other, design), stays(one, design), comes(one, other, design))
                for one in parts for other in parts]
        held, before, ever = 0, None, {str(part): set() for part in parts}
        for keeper in keepers(chance, design, NAMES, many):
            sets = keeper.state[1]
            now = {str(part): set(part.of(sets)) for part in parts}
            ever = {text: ever[text] | now[text] for text in ever}
            for mode, one, other, claims in told:
                if mode in (None, keeper.mode):
                    held += self.check_state(now[str(one)], now[str(other)], claims)
            for one, other, has_been, has_stayed, has_come in past:
                self.check_past(now, before, ever, str(one), str(other), (has_been, has_stayed, has_come))
            before = now
        return held

    def claims(self, design, mode, one, other):
        """What is told of two expressions in a mode: for ever, apart, and bounded."""
        terms = ((one, 1), (other, -1))
        return always(Fact(one, other), design, mode=mode), apart(one, other, design, mode=mode), bounded(terms, design, mode=mode)

    def check_state(self, here, there, claims):
        """How much of what is told holds; all of it does."""
        ever, away, bound = claims
        if ever:
            self.assertLessEqual(here, there)
        if away:
            self.assertFalse([name for name in here if there - {name}])
        if bound:
            self.assertLessEqual(len(here), len(there))
        return ever + away + bound

    def check_past(self, now, before, ever, one, other, ways):
        has_been, has_stayed, has_come = ways
        if has_been is None:
            self.assertLessEqual(now[one], ever[other])
        if has_stayed is None and before is not None:
            self.assertLessEqual(before[one], now[one])
        if has_come is None and before is not None:
            self.assertLessEqual(now[one] - before[one], before[other])

    def test_what_is_told_of_a_mode_is_looked_at_in_this_mode_alone(self):
        turn = ("turn", "none", (("m", (), (), "n"), ("n", (), (), "m")))
        add = ("add", "one", (("n", (), (("a", ("|", "a", "given")),), "n"),))
        leave = ("leave", "none", (("n", (), (("b", "a"), ("a", "none")), "m"),))
        design = Design(("a", "b"), ("m", "n"), (turn, add, leave), ())
        a, b = Expression("a"), Expression("b")
        self.assertEqual(breaking(Fact(a, b), design, mode="n"), (("turn", None), ("add", "x")))
        self.assertEqual(breaking(Fact(a, b), design, mode="m"), (("turn", None), ("add", "x"), ("turn", None)))
        self.assertEqual(growing(((b, 1),), design, mode="n"), (("turn", None), ("add", "x"), ("leave", None), ("turn", None)))
        self.assertEqual(growing(((b, 1),), design), (("turn", None), ("add", "x"), ("leave", None)))
        self.assertEqual(meeting(a, b, design, mode="n"), (
            ("turn", None), ("add", "y"), ("leave", None), ("turn", None), ("add", "x")))
        only = design.without("turn").with_call(("turn", "none", (("m", (), (), "n"),)))
        self.assertEqual([always(Fact(a, b), only, mode=mode) for mode in ("m", "n", None)], [True, False, False])
        self.assertEqual([bounded(((a, 1),), only, mode=mode) for mode in ("m", "n", None)], [True, False, False])
        self.assertEqual([apart(a, a, only, mode=mode) for mode in ("m", "n", None)], [True, False, False])

    def test_members_and_names_that_are_nowhere_are_at_nodes(self):
        chance = random.Random(122)
        for design in lively_designs(chance, 40):
            known = nodes(design)
            for keeper in keepers(chance, design, NAMES, 25):
                for name in NAMES + ("nowhere",):
                    inside = tuple(field for field in design.fields if name in keeper.members(field))
                    self.assertIn((keeper.mode, inside), known)

    def test_a_history_that_is_told_holds_for_other_names_too(self):
        chance = random.Random(123)
        for design in lively_designs(chance, 30):
            one, other = (Expression(form_without_given(chance, design.fields)) for _ in range(2))
            way = breaking(Fact(one, other), design)
            if way is not None:
                renamed = tuple((call, argument if argument in (None, ()) else "zoe" if argument == "x" else ("zoe",)) for call, argument in way)
                keeper = play(design, renamed)
                self.assertEqual((one - other).of(keeper.state[1]), Members("zoe"))
