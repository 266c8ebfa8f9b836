"""Promises about reports of nodes and of sizes (points 10 and 12)."""

import random

from onemember.deciding import nodes
from onemember.designs import Design
from onemember.errors import NotADesign, NotAKeeper
from onemember.keepers import Keeper, RosterKeeper
from onemember.members import Members
from onemember.reports import node_report, size_report
from onemember.samples import sample_design
from tests.helper import CloseCase, picture, strange_values
from tests.plain import any_deed, great_design, lively_designs
from tests.test_keepers import for_keeper
from tests.test_least import BARE, COUNT, NEWS

SAMPLE = sample_design()
PUT = tuple((f"p{field[:3]}", "many", (("m", (), ((field, "given"),), "m"),)) for field in ("a", "bcd", "longname"))
SIZES = Design(("a", "bcd", "longname"), ("m",), PUT, ())


def filled(*sizes):
    """The lines of the report of a keeper whose fields have the first so many of some names."""
    names = [f"n{at}" for at in range(1000)]
    keeper = Keeper(SIZES)
    for (call, _, _), size in zip(PUT, sizes):
        first, many = size if isinstance(size, tuple) else (0, size)
        keeper.do(call, Members(*names[first:first + many]))
    return size_report(keeper).split("\n")


class NodeReportTest(CloseCase):

    def test_the_sample(self):
        self.same(node_report(SAMPLE), "day    0 -\nday    1 invited\nday    2 invited inside\nnight  0 -\nnight  1 inside")
        self.assertEqual(node_report(design=NEWS), "m  0 -\nm  1 seen\nm  2 seen new")
        self.same(node_report(BARE), "m  0 -")

    def test_the_longest_mode_need_not_be_a_node(self):
        self.same(node_report(Design(("a",), ("m", "longmode"), (("p", "one", (("m", (), (("a", "given"),), "m"),)),), ())), "m         0 -\nm         1 a")

    def test_four_fields(self):
        lines = node_report(Design(("a", "b", "c", "d"), ("m",), (COUNT,), ())).split("\n")
        self.assertEqual(lines[:5], ["m  0 -", "m  1 a", "m  2 a b", "m  3 a b c", "m  4 a b c d"])
        self.assertEqual(len(lines), 16)

    def test_any_designs(self):
        chance = random.Random(200)
        for design in lively_designs(chance, 30) + [great_design(chance)]:
            wide = max(len(mode) for mode in design.modes)
            lines = node_report(design).split("\n")
            self.assertEqual(len(lines), len(nodes(design)))
            for line, (mode, inside) in zip(lines, nodes(design)):
                self.assertEqual(line, mode + " " * (wide - len(mode)) + "  " + str(len(inside)) + " " + (" ".join(inside) or "-"))

    def test_no_design(self):
        for wrong in strange_values(Design) + [str(SAMPLE)]:
            self.refused(NotADesign, {"value": wrong}, node_report, wrong)


class SizeReportTest(CloseCase):

    def test_the_sample(self):
        keeper = Keeper(SAMPLE)
        self.same(size_report(keeper), "invited: 0 0.0 percent\n inside: 0 0.0 percent")
        keeper.do_all(("invite", Members("ann", "bob", "cid")), ("enter", "cid"))
        before = picture(keeper)
        self.same(size_report(keeper=keeper), "invited: 3 100.0 percent\n inside: 1 33.3 percent")
        self.assertEqual(picture(keeper), before)
        keeper.do("close")
        self.same(size_report(keeper), "invited: 0 0.0 percent\n inside: 1 100.0 percent")

    def test_shares(self):
        self.assertEqual(filled(1, 2, 3), ["       a: 1 33.3 percent", "     bcd: 2 66.6 percent", "longname: 3 100.0 percent"])
        self.assertEqual(filled(1, (1, 7), 0), ["       a: 1 12.5 percent", "     bcd: 7 87.5 percent", "longname: 0 0.0 percent"])
        self.assertEqual(filled(999, 1000, (999, 1)), ["       a: 999 99.9 percent", "     bcd: 1000 100.0 percent", "longname: 1 0.1 percent"])
        self.assertEqual(filled((0, 6), (3, 6), (6, 3)), ["       a: 6 66.6 percent", "     bcd: 6 66.6 percent", "longname: 3 33.3 percent"])
        self.assertEqual(filled(1, (1, 999), 29), ["       a: 1 0.1 percent", "     bcd: 999 99.9 percent", "longname: 29 2.9 percent"])

    def test_rounded_down(self):
        keeper = Keeper(SIZES)
        keeper.do("pa", Members("x"))
        keeper.do("pbcd", Members(*[f"n{at}" for at in range(1999)]))
        self.assertEqual(size_report(keeper).split("\n")[:2], ["       a: 1 0.0 percent", "     bcd: 1999 99.9 percent"])

    def test_any_keepers(self):
        chance = random.Random(201)
        for design in lively_designs(chance, 20):
            keeper = Keeper(design)
            wide = max(len(field) for field in design.fields)
            for _ in range(20):
                call, argument = any_deed(chance, design, ("a", "b", "c", "d", "e", "f", "g"))
                if keeper.can(call, for_keeper(argument)):
                    keeper.do(call, for_keeper(argument))
                everybody = set().union(*[keeper.members(field).names for field in design.fields])
                for line, field in zip(size_report(keeper).split("\n"), design.fields):
                    many = len(keeper.members(field))
                    tenths = 1000 * many // len(everybody) if everybody else 0
                    self.assertEqual(line, f"{field:>{wide}}: {many} {tenths // 10}.{tenths % 10} percent")

    def test_keepers_with_a_roster(self):
        keeper = RosterKeeper(SAMPLE, Members("ann", "bob"))
        keeper.do("invite", Members("bob"))
        self.assertEqual(size_report(keeper), "invited: 1 100.0 percent\n inside: 0 0.0 percent")

    def test_no_keeper(self):
        for wrong in strange_values(Keeper):
            self.refused(NotAKeeper, {"value": wrong}, size_report, wrong)
