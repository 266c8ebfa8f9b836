"""Promises about the checker, one after another: what each certificate has to have, and what is too little or too much."""

from onemember.checker import holds
from onemember.deciding import nodes
from onemember.designs import Design
from onemember.histories import read_history
from onemember.samples import sample_design
from tests.helper import CloseCase, balanced, chain, chain_text
from tests.spoiling import text_of

SAMPLE = sample_design()
TEXT = str(SAMPLE)
NODES = nodes(SAMPLE)
FACT = "inside <= invited"
OUT = read_history("invite {ann bob}; enter ann; close")
# Whoever was added is in a, for ever; those who are marked are in b, and were in a before.
ADD = ("add", "one", (("m", (), (("a", ("|", "a", "given")),), "m"),))
MARK = ("mark", "many", (("m", (("given", "a"),), (("b", ("|", "b", "given")),), "m"),))
WIPE = ("wipe", "none", (("m", (), (("b", "none"),), "n"), ("n", (), (), "m")))
DESIGN = Design(("a", "b"), ("m", "n"), (ADD, MARK, WIPE), (("v", ("b", "none")),))
PLACES = (("m", ()), ("m", ("a",)), ("m", ("a", "b")), ("n", ()), ("n", ("a",)))


class ListsTest(CloseCase):

    def accepted(self, claim, *papers):
        for paper in papers:
            self.same(holds(claim, paper), True)

    def refused_all(self, claim, *papers):
        for paper in papers:
            self.same(holds(claim, paper), False)

    def test_lists(self):
        self.assertEqual(nodes(DESIGN), PLACES)
        claim = ("always", str(DESIGN), "b <= a", None)
        self.accepted(claim, PLACES, PLACES[::-1], PLACES[2:] + PLACES[:2])
        for at, (mode, inside) in enumerate(PLACES):
            less, more = PLACES[:at] + PLACES[at + 1:], PLACES[at + 1:]
            self.refused_all(claim, less, PLACES + ((mode, inside),), less + ([mode, inside],), less + ((mode, list(inside)),))
            self.refused_all(claim, less + ((mode, inside, None),), less + ((mode,),), less + (mode,), less + ((inside, mode),), less + (None,))
            self.refused_all(claim, less + (("M", inside),), less + ((at, inside),), PLACES[:at] + (PLACES,) + more, PLACES + (("o", inside),))
        self.refused_all(claim, list(PLACES), None, "", (), dict(PLACES), PLACES[0], (PLACES,), len(PLACES), PLACES[:1])

    def test_entries_that_are_no_nodes(self):
        # Nobody comes to b alone, but whoever is there stays in such entries.
        more = PLACES + (("m", ("b",)),)
        self.refused_all(("always", str(DESIGN), "b <= a", None), more)
        self.accepted(("always", str(DESIGN), "b <= a", "n"), more)
        self.accepted(("always", str(DESIGN), "none <= b", None), more, PLACES + (("n", ("b",)), ("m", ("b",)), ("n", ("a", "b"))))
        # From b alone in n x comes to b alone in m, which is not there.
        self.refused_all(("always", str(DESIGN), "none <= b", None), PLACES + (("n", ("b",)),))

    def test_insides(self):
        claim = ("always", str(DESIGN), "none <= none", None)
        for wrong in (("b", "a"), ("a", "a"), ("a", "c"), ("a", "given"), ("none",), ("", ), (None,), ("v",), ("a", ("b",)), "a", "", None, ["a"], {"a": 1}):
            self.refused_all(claim, PLACES + (("m", wrong),), PLACES + (("n", wrong),))
        self.accepted(claim, PLACES + (("n", ("a", "b")),))

    def test_modes(self):
        self.accepted(("always", TEXT, FACT, "day"), NODES, NODES[::-1])
        self.refused_all(("always", TEXT, FACT, None), NODES)
        self.refused_all(("always", TEXT, FACT, "night"), NODES)
        for wrong in ("", "Day", "dusk", "inside", 0, False, ("day",), ["day"], "None"):
            self.refused_all(("always", TEXT, "none <= none", wrong), NODES)
            self.refused_all(("not always", TEXT, FACT, wrong), OUT)
        self.refused_all(("always", TEXT, FACT), NODES)
        self.refused_all(("always", TEXT, FACT, "day", "day"), NODES)
        self.refused_all(["always", TEXT, FACT, "day"], NODES)
        self.refused_all(("Always", TEXT, FACT, "day"), NODES)
        self.refused_all(("not not always", TEXT, FACT, "day"), NODES, OUT)

    def test_texts(self):
        claim = ("always", TEXT, "inside - none <= invited", "day")
        self.accepted(claim, NODES)
        for wrong in ("inside  <= invited", "(inside) <= invited", "inside <= invited ", "inside <= given", "given <= invited", "inside <= zed", "inside",
                      "inside <= invited <= invited", "", FACT.encode(), None, 5, ("inside", "invited"), "inside < = invited", "none - given <= invited",
                      f"{text_of(balanced(201)).replace('a', 'inside')} <= invited",
                      f"{text_of(chain(21)).replace('a', 'none').replace('b', 'none')} <= invited",
                      chain_text(1000).replace("a", "none").replace("b", "none") + " <= none", "none <= " + chain_text(1000), "(" * 3000,
                      "none <= " + "(" * 4000):
            self.refused_all(("always", TEXT, wrong, "day"), NODES)
            self.refused_all(("not always", TEXT, wrong, None), OUT)
        for right in (f"none <= {text_of(balanced(200)).replace('a', 'none')}", f"none <= {text_of(chain(20)).replace('a', 'none').replace('b', 'inside')}"):
            self.accepted(("always", TEXT, right, None), NODES)
        for wrong in (TEXT + "\n", TEXT.replace("\n", "  \n", 1), "\n" + TEXT, "", TEXT.encode(), SAMPLE, None, TEXT.replace("inside", "within", 1),
                str(DESIGN), TEXT.upper(),
                      TEXT + "\nview deep\nshow " + chain_text(1000) + "\nshow none", TEXT.replace("show none", "show " + text_of(chain(21))),
                      TEXT.replace("case night day", "case night dawn")):
            self.refused_all(("always", wrong, FACT, "day"), NODES)
            self.refused_all(("not always", wrong, FACT, None), OUT)
            self.refused_all(("alike", TEXT, wrong), tuple((mode, inside, inside) for mode, inside in NODES))

    def test_bounded(self):
        self.accepted(("bounded", TEXT, (("inside", 1), ("invited", -1)), "day"), NODES)
        self.accepted(("bounded", TEXT, (("inside", -10 ** 39), ("none", 10 ** 39)), None), NODES)
        self.accepted(("bounded", TEXT, (("inside", 0),) * 4, None), NODES)
        self.refused_all(("bounded", TEXT, (("inside", 1), ("invited", -1)), None), NODES)
        for wrong in ((), (("inside", 0),) * 5, (("inside", False),), (("inside", None),), (["inside", 0],), [("inside", 0)], (("inside", 0, 0),),
                (("zed", 0),),
                      (("given", 0),), ((0, "inside"),), ("inside", 0), (("inside", "0"),), None, (("(inside)", 0),), ((("inside",), 0),)):
            self.refused_all(("bounded", TEXT, wrong, None), NODES)
            self.refused_all(("not bounded", TEXT, wrong, None), (OUT, "ann"))
        self.accepted(("not bounded", TEXT, (("inside", 1), ("invited", -1)), None), (OUT, "ann"))
        self.accepted(("not bounded", TEXT, (("inside", 2), ("invited", -1)), "day"), (OUT[:2], "ann"))
        self.refused_all(("not bounded", TEXT, (("inside", 1), ("invited", -1)), "day"), (OUT, "ann"), (OUT[:2], "ann"))
        self.refused_all(("not bounded", TEXT, (("inside", 1), ("invited", -1)), None), (OUT, "bob"), (OUT, "zoe"), (OUT, "x"), (OUT, None), (OUT,),
                OUT, [OUT, "ann"], (OUT, ("ann",)))

    def test_flags(self):
        flagged = (("m", (), False), ("m", ("a",), True), ("m", ("a", "b"), True), ("n", (), False), ("n", ("a",), True))
        claim = ("been", str(DESIGN), "b", "a")
        self.accepted(claim, flagged, flagged[::-1], flagged + (("m", (), True), ("n", (), True)))
        # Nobody stays in a, by any deed, without the flag; but what is told of a triple that nobody comes to is open.
        self.accepted(claim, flagged + (("n", ("a",), False),), flagged + (("m", ("a",), False), ("n", ("a",), False)))
        self.refused_all(claim, flagged + (("m", (), True),), PLACES, flagged + (("m", ("a", "b"), False),))
        for at, (mode, inside, flag) in enumerate(flagged):
            less = flagged[:at] + flagged[at + 1:]
            self.refused_all(claim, less, flagged + ((mode, inside, flag),), less + ((mode, inside, int(flag)),), less + ((mode, inside, not flag),),
                    less + ((mode, inside),))
            self.refused_all(claim, flagged + ((mode, inside, int(flag)),), less + ((mode, inside, str(flag)),), less + ((mode, inside, None),),
                    less + ([mode, inside, flag],))
        self.refused_all(("been", str(DESIGN), "a", "b"), flagged)
        self.accepted(("not been", str(DESIGN), "a", "b"), ((("add", "zoe"),), "zoe"), ((("add", "zoe"), ("mark", ())), "zoe"))
        self.refused_all(("not been", str(DESIGN), "a", "b"), ((("add", "zoe"), ("mark", ("zoe",))), "zoe"), ((("add", "zoe"),), "ann"), ((), "zoe"))
        # Then or at an earlier time: who was in b once has been there.
        wiped = (("add", "zoe"), ("mark", ("zoe",)), ("wipe", None))
        self.refused_all(("not been", str(DESIGN), "a", "b"), (wiped, "zoe"))

    def test_stays_and_comes(self):
        self.accepted(("stays", str(DESIGN), "a"), PLACES)
        self.refused_all(("stays", str(DESIGN), "b"), PLACES)
        self.accepted(("comes", str(DESIGN), "b", "a"), PLACES)
        self.refused_all(("comes", str(DESIGN), "a", "b"), PLACES)
        # In an entry that is no node x may come into b from outside a: then the list shows nothing.
        marked = ("mark", "many", (("m", (("given", "a"),), (("b", "a"),), "m"),))
        self.accepted(("comes", str(DESIGN.with_call(marked)), "b", "a"), PLACES + (("m", ("b",)),))
        twin = ("twin", "one", (("m", (("given", "b"),), (("a", "given"),), "m"),))
        self.accepted(("comes", str(DESIGN.with_call(twin)), "a & b", "a"), PLACES)
        self.refused_all(("comes", str(DESIGN.with_call(twin)), "a & b", "a"), PLACES + (("m", ("b",)),))
        wiped = (("add", "ann"), ("add", "bob"), ("mark", ("ann",)), ("wipe", None))
        self.accepted(("not stays", str(DESIGN), "b"), (wiped, "ann"))
        self.refused_all(("not stays", str(DESIGN), "b"), (wiped, "bob"), (wiped[:3], "ann"), ((), "ann"), (wiped + (("wipe", None),), "ann"), wiped,
                (wiped[1:], "ann"),
                         (wiped[:3] + (("add", "bob"),), "ann"), (wiped[:3] + (("mark", ("bob",)),), "ann"))
        self.accepted(("not comes", str(DESIGN), "b", "none"), (wiped[:3], "ann"))
        self.accepted(("not comes", str(DESIGN), "a", "b"), (wiped[:1], "ann"), (wiped[:2], "bob"))
        self.refused_all(("not comes", str(DESIGN), "a", "b"), (wiped[:2], "ann"), (wiped[:3], "ann"), ((), "ann"), (wiped[:2], "zoe"))
        self.refused_all(("not comes", str(DESIGN), "b", "a"), (wiped[:3], "ann"))

    def test_apart(self):
        pairs = tuple((mode, one, other) for mode, one in PLACES for at_mode, other in PLACES if at_mode == mode)
        single = Design(("a", "b"), ("m",), (("only", "many", (("m", (("a", "none"),), (("a", "given"),), "m"),)),), ())
        claim = ("apart", str(single), "a", "b", None)
        two = (("m", (), ()), ("m", ("a",), ()), ("m", (), ("a",)), ("m", ("a",), ("a",)))
        self.accepted(claim, two, two[::-1])
        for at in range(4):
            self.refused_all(claim, two[:at] + two[at + 1:], two + (two[at],), two[:at] + (two[at][:2],) + two[at + 1:])
        self.refused_all(("apart", str(single), "a", "a", None), two)
        self.accepted(("apart", str(DESIGN), "a", "none", None), pairs)
        # Either member may be the first one.
        self.refused_all(("apart", str(single), "a - b", "b", None), two + (("m", ("b",), ("a",)),))
        self.refused_all(("apart", str(single), "a - b", "b", None), two + (("m", ("a",), ("b",)),))
        self.accepted(("apart", str(single), "b", "b", None), two + (("m", ("b",), ("a",)),), two + (("m", ("a",), ("b",)), ("m", ("b",), ("a",))))
        self.refused_all(("apart", str(single), "b", "b", None), two + (("m", ("b",), ()),))
        way = read_history("invite {ann bob}; enter ann")
        claim = ("not apart", TEXT, "inside", "invited - inside", "day")
        self.accepted(claim, (way, "ann", "bob"))
        self.refused_all(claim, (way, "bob", "ann"), (way, "ann", "ann"), (way, "ann", "zoe"), (way[:1], "ann", "bob"), (way, "ann"), [way, "ann",
                "bob"], (list(way), "ann", "bob"), (way, "ann", None))
        self.refused_all(("not apart", TEXT, "inside", "inside", None), (way, "ann", "ann"))
        self.refused_all(("not apart", TEXT, "inside", "invited - inside", "night"), (way, "ann", "bob"))
        self.accepted(("not apart", TEXT, "inside", "invited - inside", None), (way, "ann", "bob"))

    def test_not_always(self):
        claim = ("not always", TEXT, FACT, None)
        self.accepted(claim, OUT, OUT + (("leave", "bob"),), read_history("invite {x}; enter x; close"))
        self.refused_all(claim, OUT[:2], list(OUT), OUT[1:], OUT + (("leave", "ann"),), OUT + (("enter", "bob"),), (), None,
                "invite {x}; enter x; close", OUT + (None,))
        for wrong in (("invite", ("bob", "ann")), ("invite", ["ann", "bob"]), ("invite", "ann"), ("invite", ("ann", "ann")), ["invite", ("ann",
                "bob")], ("invite", ("ann", "bob"), None), ("invited", ("ann",)), ("invite",)):
            self.refused_all(claim, (wrong,) + OUT[1:])
        for wrong in (("close", ()), ("close",), ("close", "x"), ("Close", None), (None, None), 5):
            self.refused_all(claim, OUT[:2] + (wrong,))
        self.accepted(("not always", TEXT, FACT, "night"), OUT)
        self.refused_all(("not always", TEXT, FACT, "day"), OUT)
        self.refused_all(("not always", TEXT, "none <= invited", None), OUT)

    def test_derived(self):
        updates = (("a", ("|", "a", "given")), ("b", ("|", "a", "given")))
        twin = str(Design(("a", "b"), ("m",), (("come", "one", (("m", (), updates, "m"),)),), ()))
        two = (("m", ()), ("m", ("a", "b")))
        self.accepted(("derived", twin, "b", "a"), two, two[::-1])
        self.accepted(("derived", twin, "a", "b | none"), two)
        self.refused_all(("derived", twin, "a", "a"), two)
        self.refused_all(("derived", twin, "a", "a | b"), two)
        self.refused_all(("derived", twin, "c", "a"), two)
        self.refused_all(("derived", twin, "a", "none"), two)
        self.refused_all(("derived", twin, "a", "given"), two)
        self.refused_all(("derived", twin, "b", "a"), two + (("m", ("a",)),), two[:1], two + two[:1])
        self.refused_all(("not derived", twin, "a", "none"), two)


class TwoDesignsTest(CloseCase):

    def test_alike(self):
        kept = SAMPLE.with_call(("close", "none", (("day", (), (), "night"),)))
        free = SAMPLE.with_call(("begin", "none", (("night", (), (("inside", "none"),), "day"),)))
        twice = tuple((mode, inside, inside) for mode, inside in NODES)
        turned = tuple((mode, inside, inside[::-1]) for mode, inside in NODES)
        swapped = str(Design(("inside", "invited"), SAMPLE.modes, SAMPLE.calls[::-1], SAMPLE.views[::-1]))
        for word in ("alike", "stands in"):
            self.same(holds((word, TEXT, TEXT), twice), True)
            self.same(holds((word, TEXT, TEXT), twice[::-1]), True)
            self.same(holds((word, TEXT, swapped), turned), True)
            self.same(holds((word, TEXT, swapped), twice), False)
            for at in range(len(twice)):
                for paper in (twice[:at] + twice[at + 1:], twice + (twice[at],), twice[:at] + (twice[at][:2],) + twice[at + 1:], twice + (("day",
                        ("inside",), ()),)):
                    self.same(holds((word, TEXT, TEXT), paper), False)
            self.same(holds((word, TEXT, str(kept)), twice), False)
        self.same(holds(("stands in", str(free), TEXT), twice), True)
        self.same(holds(("alike", str(free), TEXT), twice), False)
        self.same(holds(("stands in", TEXT, str(free)), twice), False)

    def test_modes_that_differ_behind_a_deed_of_both(self):
        first = Design(("a",), ("m", "n"), (("go", "none", (("m", (), (), "n"), ("n", (), (), "n"))),), ())
        second = Design(("a",), ("m", "n"), (("go", "none", (("m", (), (), "m"), ("n", (), (), "n"))),), ())
        for word in ("alike", "stands in"):
            self.same(holds((word, str(first), str(second)), (("m", (), ()), ("n", (), ()))), False)
            self.same(holds((word, str(first), str(first)), (("m", (), ()), ("n", (), ()))), True)
            self.same(holds(("not " + word, str(first), str(second)), ((("go", None),), "mode", None)), True)
            self.same(holds(("not " + word, str(first), str(second)), ((("go", None), ("go", None)), "mode", None)), True)
            for wrong in (((), "mode", None), ((("go", None),), "mode", "m"), ((("go", None),), "Mode", None), ((("go", None),), "mode"), ((("go",
                    None),), "mode", ())):
                self.same(holds(("not " + word, str(first), str(second)), wrong), False)

    def test_signs(self):
        kept = SAMPLE.with_call(("close", "none", (("day", (), (), "night"),)))
        free = SAMPLE.with_call(("begin", "none", (("night", (), (("inside", "none"),), "day"),)))
        way = read_history("invite {ann bob}; enter ann; leave ann; close; begin")
        for word in ("not alike", "not stands in"):
            self.same(holds((word, TEXT, str(kept)), (way, "view", "awaited")), True)
            self.same(holds((word, TEXT, str(kept)), (way, "deed", ("enter", "zoe"))), False)
            for wrong in ((way, "view", "guests"), (way[:-1], "view", "awaited"), (way, "view", "zed"), (way, "view", None), (list(way), "view",
                    "awaited"), (way, "views", "awaited"),
                          (way, ("view",), "awaited"), (way, "view", "awaited", None), (way, "mode", None), (way + (("begin", None),), "view", "awaited")):
                self.same(holds((word, TEXT, str(kept)), wrong), False)
        # In the second one bob is still invited, so only there he enters.
        self.same(holds(("not alike", TEXT, str(kept)), (way, "deed", ("enter", "bob"))), True)
        self.same(holds(("not stands in", TEXT, str(kept)), (way, "deed", ("enter", "bob"))), True)
        self.same(holds(("not alike", str(kept), TEXT), (way, "deed", ("enter", "bob"))), True)
        self.same(holds(("not stands in", str(kept), TEXT), (way, "deed", ("enter", "bob"))), False)
        full = way[:2] + way[3:4]
        for wrong in (("begin", ()), ["begin", None], ("begin",), ("started", None), None, "begin"):
            self.same(holds(("not alike", TEXT, str(free)), (full, "deed", wrong)), False)
        self.same(holds(("not alike", TEXT, str(free)), (full, "deed", ("begin", None))), True)

    def test_histories_that_one_of_them_refuses(self):
        free = str(SAMPLE.with_call(("begin", "none", (("night", (), (("inside", "none"),), "day"),))))
        way = read_history("invite {ann bob}; enter ann; close; begin")
        for word in ("not alike", "not stands in"):
            for first, second in ((TEXT, free), (free, TEXT)):
                for paper in ((way, "mode", None), (way, "view", "guests"), (way, "deed", ("begin", None)), (way + (("close", None),), "deed",
                        ("begin", None))):
                    self.same(holds((word, first, second), paper), False)

    def test_designs_that_can_not_be_compared(self):
        for other in (SAMPLE.without("leave"), SAMPLE.with_call(("more", "none", ())), Design(SAMPLE.fields, SAMPLE.modes, SAMPLE.calls, ()),
                Design(SAMPLE.fields, ("day", "dusk"), (), ())):
            for word in ("alike", "stands in", "not alike", "not stands in"):
                for first, second in ((TEXT, str(other)), (str(other), TEXT)):
                    for paper in (((), "deed", ("leave", "x")), ((), "mode", None), ((), "view", "guests"), tuple((mode, inside, inside) for mode,
                            inside in NODES)):
                        self.same(holds((word, first, second), paper), False)


class CallsTest(CloseCase):

    def test_commute(self):
        self.same(holds(("commute", TEXT, "invite", "leave"), NODES), True)
        self.same(holds(("commute", TEXT, "leave", "invite"), NODES[::-1]), True)
        self.same(holds(("commute", TEXT, "enter", "leave"), NODES), False)
        self.same(holds(("commute", TEXT, "invite", "zed"), NODES), False)
        self.same(holds(("commute", TEXT, "invite", "leave"), NODES[1:]), False)
        invited = read_history("invite {ann bob}")
        self.same(holds(("not commute", TEXT, "enter", "leave"), (invited, "ann", "ann")), True)
        for wrong in ((invited, "ann", "bob"), (invited, "zoe", "zoe"), ((), "ann", "ann"), (invited, "ann", ("ann",)), (invited, "ann"), (invited,
                None, None), (list(invited), "ann", "ann")):
            self.same(holds(("not commute", TEXT, "enter", "leave"), wrong), False)
        self.same(holds(("not commute", TEXT, "invite", "enter"), ((), ("ann", "zoe"), "zoe")), True)
        for wrong in (((), ("zoe", "ann"), "zoe"), ((), ["ann", "zoe"], "zoe"), ((), ("ann",), "zoe"), ((), "zoe", "zoe"), ((), ("zoe", "zoe"), "zoe")):
            self.same(holds(("not commute", TEXT, "invite", "enter"), wrong), False)
        self.same(holds(("not commute", TEXT, "close", "begin"), ((), None, None)), True)
        self.same(holds(("not commute", TEXT, "close", "begin"), ((), (), None)), False)

    def test_loops(self):
        facts, updates = ((("&", "given", "off"), "none"),), (("on", ("|", "on", "given")),)
        calls = (("add", "one", (("m", facts, updates, "m"),)), ("all", "many", (("m", facts, updates, "m"),)), ("bar", "one", (("m", (), (("off",
                ("|", "off", "given")),), "m"),)))
        text = str(Design(("on", "off"), ("m",), calls, ()))
        insides = ((), ("on",), ("off",), ("on", "off"))
        two = tuple(("m", one, other) for one in insides for other in insides)
        self.same(holds(("same loop", text, "add", "all", "whole"), two), True)
        self.same(holds(("same loop", text, "add", "all", "whole"), two[::-1]), True)
        self.same(holds(("same loop", text, "add", "all", "whole"), two[1:]), False)
        for rule in ("skip", "stop", "Whole", "", None, 0):
            self.same(holds(("same loop", text, "add", "all", rule), two), False)
        for one, many in (("all", "add"), ("add", "add"), ("all", "all"), ("bar", "all"), ("add", "bar"), ("add", "zed"), (None, "all")):
            self.same(holds(("same loop", text, one, many, "whole"), two), False)
        barred = read_history("bar bob")
        for rule, names in (("skip", ("bob",)), ("skip", ("ann", "bob")), ("stop", ("ann", "bob")), ("stop", ("ann", "bob", "cid"))):
            self.same(holds(("not same loop", text, "add", "all", rule), (barred, names)), True)
        for rule, names in (("stop", ("bob",)), ("stop", ("bob", "cid")), ("whole", ("ann", "bob")), ("skip", ("ann",)), ("skip", ()), ("skip",
                ("bob", "ann")), ("skip", ["bob"]), ("skip", "bob"), ("skip", (None,))):
            self.same(holds(("not same loop", text, "add", "all", rule), (barred, names)), False)
        self.same(holds(("not same loop", text, "add", "all", "skip"), (barred, ("bob",), None)), False)
        self.same(holds(("not same loop", text, "all", "add", "skip"), (barred, ("bob",))), False)

    def test_deeds_that_are_passed_over(self):
        calls = (
            ("add", "one", (("m", (("given", ("-", "given", "off")),), (("on", ("|", "on", "given")),), "m"),)),
            ("all", "many", (("m", (), (("on", ("|", "on", ("-", "given", "off"))),), "m"),)), ("bar", "one", (("m", (), (("off", ("|", "off",
            "given")),), "m"),)),
        )
        text = str(Design(("on", "off"), ("m",), calls, ()))
        barred = read_history("bar bob")
        for names in (("bob",), ("ann", "bob"), ("bob", "cid"), ("ann", "bob", "cid")):
            self.same(holds(("not same loop", text, "add", "all", "skip"), (barred, names)), False)
            self.same(holds(("not same loop", text, "add", "all", "stop"), (barred, names)), True)
            self.same(holds(("not same loop", text, "add", "all", "whole"), (barred, names)), True)

    def test_both_orders_of_the_two(self):
        # One that is refused stops the loop, so that whether the other one is done depends on the order.
        calls = (("add", "one", (("m", (("given", "a"),), (("b", ("|", "b", "given")),), "m"),)), ("all", "many", ()))
        text = str(Design(("a", "b"), ("m",), calls, ()))
        self.same(holds(("same loop", text, "add", "all", "whole"), (("m", (), ()),)), False)
        self.same(holds(("same loop", str(Design(("a",), ("m",), (("add", "one", ()), ("all", "many", (("m", (("given", "none"),), (), "m"),))), ())),
                "add", "all", "stop"), (("m", (), ()),)), True)
        refusing = (("add", "one", (("m", (("given", "a"),), (("b", ("|", "b", "given")),), "m"),)), ("all", "many", (("m", (("given", "none"),), (), "m"),)))
        text = str(Design(("a", "b"), ("m",), refusing, ()))
        claim = ("same loop", text, "add", "all", "stop")
        self.same(holds(claim, (("m", (), ()),)), True)
        for more in (("m", ("a",), ()), ("m", (), ("a",))):
            other = (more[0], *(("a", "b") if inside else () for inside in more[1:]))
            self.same(holds(claim, (("m", (), ()), more, other)), False)


class FieldsTest(CloseCase):

    def test_numbers(self):
        come = ("come", "one", (("m", (), (("seen", ("|", "seen", "given")), ("new", ("-", ("|", "new", "given"), "seen"))), "m"),))
        rest = ("rest", "none", (("m", (), (("new", "none"),), "m"),))
        text = str(Design(("seen", "new"), ("m",), (come, rest), (("fresh", ("new",)),)))
        ways = ((), read_history("come x"), read_history("come x; rest"))
        signs = (((), "view", "fresh"), ((("come", "x"),), "view", "fresh"), ((), "view", "fresh"))
        self.same(holds(("fields", text, 2), (ways, signs)), True)
        self.same(holds(("fields", text, 1), (ways, signs)), True)
        self.same(holds(("fields", text, 1), (ways[:1], ())), True)
        self.same(holds(("fields", text, 1), (ways[1:2], ())), True)
        self.same(holds(("fields", text, 1), ((), ())), False)
        for wrong in (0, 3, 4, 5, -1, True, None, "2", 10 ** 39):
            self.same(holds(("fields", text, wrong), (ways, signs)), False)
        for wrong in ((ways[:2], signs[:1]), (ways, signs[:2]), (ways, signs + signs[:1]), (ways[1:] + ways[:1], signs), (list(ways), signs), (ways,
                list(signs)),
                      [ways, signs], (ways, signs, None), ways, (ways[:2] + ways[:1], signs), (ways + ways[:1], signs), ((ways[0],
                      read_history("come y"), ways[2]), signs)):
            self.same(holds(("fields", text, 2), wrong), False)
        for more in ((((), "view", "fresh"), True), (((("rest", None),), "view", "fresh"), False), (((("come", "x"),), "view", "fresh"), True),
                     (((), "view", "fresher"), False), (((), "mode", None), False), (([], "view", "fresh"), False), (((), "view"), False), (((("come",
                     "y"),), "view", "fresh"), False)):
            self.same(holds(("fields", text, 2), (ways, more[:1] + signs[1:])), more[1])

    def test_signs_for_x_alone(self):
        calls = (("put", "many", (("m", (), (("a", ("|", "a", "given")),), "m"),)), ("ask", "many", (("m", ((("&", "a", "given"), "none"),), (), "m"),)))
        text = str(Design(("a",), ("m",), calls, ()))
        ways = ((), read_history("put {x}"))
        for way in ((), read_history("ask {}"), read_history("put {}; ask {}")):
            self.same(holds(("fields", text, 1), (ways, ((way, "deed", ("ask", ("x",))),))), True)
            for wrong in (("ask", ("x", "y")), ("ask", ("y",)), ("ask", ()), ("ask", "x"), ("put", ("x",)), None):
                self.same(holds(("fields", text, 1), (ways, ((way, "deed", wrong),))), False)
        for way in (read_history("put {y}"), read_history("ask {y}"), [], None):
            self.same(holds(("fields", text, 1), (ways, ((way, "deed", ("ask", ("x",))),))), False)
        self.same(holds(("fields", text, 1), ((ways[0], read_history("put {x y}")), (((), "deed", ("ask", ("x",))),))), False)

    def test_signs_with_longer_ways_and_deeds(self):
        text = str(SAMPLE)
        ways = ((), read_history("invite {x}"), read_history("invite {x}; enter x"))
        signs = [((), "deed", ("enter", "x")), ((), "view", "guests"), (read_history("invite {}; leave x"), "view", "awaited")]
        self.same(holds(("fields", text, 2), (ways, tuple(signs))), False)
        signs[2] = (read_history("invite {}; enter x; leave x; close"), "view", "guests")
        self.same(holds(("fields", text, 2), (ways, tuple(signs))), False)
        signs[2] = ((), "view", "guests")
        self.same(holds(("fields", text, 2), (ways, tuple(signs))), True)
        signs[0] = (read_history("invite {}; leave x"), "deed", ("enter", "x"))
        self.same(holds(("fields", text, 2), (ways, tuple(signs))), True)
        signs[1] = (read_history("close"), "deed", ("begin", None))
        self.same(holds(("fields", text, 2), (ways, tuple(signs))), True)
        for wrong in (("enter", "y"), ("enter", ("x",)), ("leave", "x"), ("invite", ("y",))):
            self.same(holds(("fields", text, 2), (ways, (((), "deed", wrong), *signs[1:]))), False)
        night = tuple(way + (("close", None),) for way in ways[::2])
        self.same(holds(("fields", text, 1), (night, (((), "view", "guests"),))), True)
        self.same(holds(("fields", text, 1), ((ways[0], night[1]), (((), "view", "guests"),))), False)
        self.same(holds(("fields", text, 1), ((read_history("invite {x y}"),), ())), False)
        self.same(holds(("fields", text, 1), ((read_history("enter x"),), ())), False)
