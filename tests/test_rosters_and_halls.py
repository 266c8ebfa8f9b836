"""Promises about keepers with a roster, and about halls of keepers (points 3 and 10)."""

import random

from onemember.designs import Design
from onemember.errors import Broken, Busy, InvalidArgument, InvalidDeeds, InvalidName, NotADesign, NothingToUndo, NotMembers
from onemember.errors import Refused, Stopped, Stranger, UnknownCall, UnknownKeeper, WrongMode
from onemember.expressions import Fact
from onemember.keepers import Hall, Keeper, RosterKeeper, attempt, get_keeper, put_keeper
from onemember.members import Change, Members
from onemember.samples import sample_design
from tests.helper import CloseCase, picture, plain_values, strange_values, told
from tests.plain import any_deed, lively_designs
from tests.test_keepers import for_keeper


class RosterTest(CloseCase):

    def setUp(self):
        self.roster = Members("ann", "bob", "eve")
        self.keeper = RosterKeeper(sample_design(), self.roster)

    def test_a_new_one(self):
        keeper = self.keeper
        self.assertIsInstance(keeper, Keeper)
        self.assertIs(keeper.roster, self.roster)
        self.assertEqual((keeper.design, keeper.mode, keeper.log, keeper.facts), (sample_design(), "day", (), ()))
        self.assertEqual(repr(keeper), "RosterKeeper(day, 0 deeds)")
        self.assertEqual(RosterKeeper(roster=Members(), design=sample_design()).roster, Members())

    def test_wrong_parameters(self):
        for wrong in strange_values(Design):
            self.refused(NotADesign, {"value": wrong}, RosterKeeper, wrong, Members("ann"))
            self.refused(NotADesign, {"value": wrong}, RosterKeeper, wrong, "ann")
        for wrong in strange_values(Members) + [("ann", "bob")]:
            self.refused(NotMembers, {"value": wrong}, RosterKeeper, sample_design(), wrong)

    def test_names_on_the_roster(self):
        keeper = self.keeper
        keeper.do("invite", Members("ann", "bob"))
        keeper("enter", "ann")
        keeper.do("leave", "eve")
        keeper.do("invite", Members())
        self.assertEqual((len(keeper), told(keeper.state)[1]), (4, (("invited", ("ann", "bob")), ("inside", ("ann",)))))
        self.assertEqual([keeper.can("enter", "bob"), keeper.can("enter", "eve"), keeper.can("close")], [True, False, True])
        for act in (keeper.do, keeper):
            self.assertEqual(act("close"), (("awaited", Change(Members(), Members("bob"))),))
            keeper.undo()
        self.assertEqual((len(keeper), repr(keeper)), (4, "RosterKeeper(day, 4 deeds)"))

    def test_strangers(self):
        before = picture(self.keeper)
        for act in (self.keeper.do, self.keeper.can, self.keeper):
            self.refused(Stranger, {"name": "cid"}, act, "leave", "cid")
            self.refused(Stranger, {"name": "given"}, act, "enter", "given")
            self.refused(Stranger, {"name": "cid"}, act, "invite", Members("zed", "ann", "cid", "eve", "fay"))
            self.refused(Stranger, {"name": "ab"}, act, "invite", Members("ab"))
        self.refused(Stranger, {"name": "cid"}, self.keeper.do_all, ("invite", Members("ann")), ("leave", "cid"), ("bye", 5))
        self.assertEqual(picture(self.keeper), before)

    def test_which_error_is_due_first(self):
        keeper = self.keeper
        for act in (keeper.do, keeper.can, keeper):
            self.refused(UnknownCall, {"value": "bye"}, act, "bye", "cid")
            self.refused(InvalidArgument, {"value": "Cid"}, act, "leave", "Cid")
            self.refused(InvalidArgument, {"value": ("cid",)}, act, "invite", ("cid",))
            self.refused(InvalidArgument, {"value": "cid"}, act, "close", "cid")
        self.refused(Refused, {"index": 0}, keeper.do, "enter", "ann")
        self.refused(Stranger, {"name": "cid"}, keeper.do, "enter", "cid")
        keeper.do("close")
        self.refused(Stranger, {"name": "cid"}, keeper.do, "enter", "cid")
        self.refused(WrongMode, {"found": "night"}, keeper.do, "enter", "ann")
        keeper.facts = (Fact.read("inside <= none"),)
        self.refused(Stranger, {"name": "cid"}, keeper.do, "leave", "cid")

    def test_busy_is_ahead_of_strangers(self):
        def watch(same, at):
            self.refused(Busy, {}, same.do, "leave", "cid")
            self.refused(Stranger, {"name": "cid"}, same.can, "leave", "cid")

        self.keeper.do_all(("invite", Members("ann")), watch=watch)

    def test_trials(self):
        before = picture(self.keeper)
        self.refused(Stranger, {"name": "cid"}, attempt, self.keeper, lambda keeper: keeper("leave", "cid"))
        self.assertEqual(attempt(self.keeper, lambda keeper: keeper("invite", self.roster)[0][0]), "awaited")
        self.assertEqual(picture(self.keeper), before)

    def test_as_a_keeper_for_names_on_the_roster(self):
        chance = random.Random(50)
        for design in lively_designs(chance, 15):
            keeper, plain = RosterKeeper(design, Members("ann", "bob")), Keeper(design)
            for _ in range(15):
                call, argument = any_deed(chance, design, ("ann", "bob"))
                argument = for_keeper(argument)
                self.assertIs(keeper.can(call, argument), plain.can(call, argument))
                if plain.can(call, argument):
                    self.assertEqual(keeper.do(call, argument), plain.do(call, argument))
            self.assertEqual(picture(keeper)[1:], picture(plain)[1:])

    def test_nobody_on_the_roster(self):
        keeper = RosterKeeper(sample_design(), Members())
        self.refused(Stranger, {"name": "x"}, keeper.do, "leave", "x")
        keeper.do("invite", Members())
        keeper.do("close")
        self.assertEqual(len(keeper), 2)


class HallTest(CloseCase):

    def test_a_new_hall(self):
        hall = Hall()
        self.assertEqual((hall.names, len(hall), bool(hall), list(hall)), ((), 0, False, []))
        self.refused(UnknownKeeper, {}, get_keeper, hall, "east")

    def test_names(self):
        hall = Hall()
        for name in ("west", "east", "a", "abcdefgh", "west", "given"):
            hall[name] = sample_design()
        self.same(hall.names, ("a", "abcdefgh", "east", "given", "west"))
        self.assertEqual((list(hall), len(hall), bool(hall)), (list(hall.names), 5, True))
        for name in hall.names:
            self.assertIs(name in hall, True)
        for value in ["", "East", "eas", ("east",), b"east"] + strange_values():
            self.assertIs(value in hall, False)

    def test_the_keeper_that_was_set(self):
        hall, design = Hall(), sample_design()
        hall["east"] = design
        keeper = hall["east"]
        self.assertIs(keeper.__class__, Keeper)
        self.assertIs(keeper.design, design)
        self.assertEqual(picture(keeper), picture(Keeper(design)))
        keeper.do("invite", Members("ann"))
        hall["west"] = design
        self.assertIs(hall["east"], keeper)
        self.assertIs(get_keeper(hall, "east"), keeper)
        self.assertEqual((len(hall["east"]), len(hall["west"])), (1, 0))

    def test_a_new_keeper_for_each_setting(self):
        hall, design = Hall(), sample_design()
        self.assertIs(put_keeper(hall, "east", design), None)
        first = get_keeper(hall=hall, name="east")
        first.do("invite", Members("ann"))
        self.assertIs(put_keeper(name="east", design=design, hall=hall), None)
        self.assertIsNot(hall["east"], first)
        self.assertEqual((len(hall["east"]), len(first), hall.names), (0, 1, ("east",)))
        put_keeper(hall, "east", Design(("a",), ("m",), (), ()))
        self.assertEqual(hall["east"].mode, "m")

    def test_wrong_settings(self):
        hall = Hall()
        hall["east"] = sample_design()
        keeper = hall["east"]
        for wrong in ["", "East", "1a", "ninechars", "a b"] + [value for value in strange_values()]:
            self.refused(InvalidName, {"value": wrong}, put_keeper, hall, wrong, sample_design())
            self.refused(InvalidName, {"value": wrong}, put_keeper, hall, wrong, 5)
        for wrong in strange_values(Design):
            self.refused(NotADesign, {"value": wrong}, put_keeper, hall, "west", wrong)
            self.refused(NotADesign, {"value": wrong}, put_keeper, hall, "east", wrong)
        self.assertEqual(hall.names, ("east",))
        self.assertIs(hall["east"], keeper)

    def test_unknown_keepers(self):
        hall = Hall()
        hall["east"] = sample_design()
        for wrong in ["west", "", "East", "eas", ("east",)] + strange_values():
            self.refused(UnknownKeeper, {}, get_keeper, hall, wrong)
            with self.assertRaises(UnknownKeeper):
                hall[wrong]

    def test_equal_to_itself_alone(self):
        one, other = Hall(), Hall()
        self.assertTrue(one == one and one != other and other not in plain_values())

    def test_iterating_while_keepers_are_set(self):
        hall = Hall()
        for name in ("b", "a"):
            hall[name] = sample_design()
        for name in hall:
            hall[name + "1"] = sample_design()
        self.assertEqual(hall.names, ("a", "a1", "b", "b1"))


class HallDoAllTest(CloseCase):

    def setUp(self):
        self.hall = Hall()
        for name in ("east", "west"):
            self.hall[name] = sample_design()
            self.hall[name].do_all(("invite", Members("ann", "bob")), ("enter", "ann"))
        self.keepers = [self.hall["east"], self.hall["west"]]

    def pictures(self):
        self.assertEqual([self.hall["east"], self.hall["west"]], self.keepers)
        return [picture(keeper) for keeper in self.keepers]

    def stopped(self, index, kind, attributes, *deeds):
        """The deed with the index raises this error, which is the reason and the cause, and nothing changes."""
        before = self.pictures()
        with self.assertRaises(Stopped) as caught:
            self.hall.do_all(*deeds)
        error = caught.exception
        self.same(error.index, index)
        self.assertEqual(vars(error).keys(), {"index", "reason"})
        self.assertIs(error.reason.__class__, kind)
        self.assertIs(error.__cause__, error.reason)
        self.assertEqual(vars(error.reason), attributes)
        self.assertEqual(self.pictures(), before)

    def test_as_single_deeds(self):
        deeds = (("east", "leave", "ann"), ("west", "enter", "bob"), ("east", "close", None), ("west", "leave", "ann"))
        self.assertIs(self.hall.do_all(*deeds), None)
        east, west = self.keepers
        self.assertEqual(told(east.state), ("night", (("invited", ()), ("inside", ()))))
        self.assertEqual(told(west.state), ("day", (("invited", ("ann", "bob")), ("inside", ("bob",)))))
        self.assertEqual((east.log[2:], west.log[2:]), ((("leave", "ann"), ("close", None)), (("enter", "bob"), ("leave", "ann"))))
        east.undo()
        self.assertEqual((east.mode, len(east), len(west)), ("day", 3, 4))

    def test_no_deeds(self):
        before = self.pictures()
        self.assertIs(self.hall.do_all(), None)
        self.assertIs(Hall().do_all(), None)
        self.assertEqual(self.pictures(), before)

    def test_the_first_deed_that_raises_an_error(self):
        good = ("west", "leave", "ann"), ("east", "close", None)
        for kind, attributes, deed in (
            (Refused, {"index": 0}, ("west", "enter", "cid")), (WrongMode, {"found": "night"}, ("east", "enter", "ann")),
            (UnknownCall, {"value": "bye"}, ("east", "bye", None)), (InvalidArgument, {"value": "Ann"}, ("west", "enter", "Ann")),
            (UnknownKeeper, {}, ("south", "close", None)), (InvalidArgument, {"value": None}, ("west", "leave", None)),
            (UnknownKeeper, {}, (["east"], 5, 5)),
        ):
            self.stopped(2, kind, attributes, *good, deed)
            self.stopped(2, kind, attributes, *good, deed, deed, ("south", 5, 5))
            self.stopped(3, kind, attributes, *good, ("west", "enter", "ann"), deed)
        self.stopped(0, UnknownKeeper, {}, ("south", "bye", 5), *good)

    def test_broken_facts(self):
        self.keepers[0].facts = (Fact.read("inside <= invited"),)
        self.stopped(1, Broken, {"index": 0}, ("west", "close", None), ("east", "close", None))

    def test_a_busy_keeper(self):
        east, west = self.keepers
        seen = []

        def watch(same, at):
            with self.assertRaises(Stopped) as caught:
                self.hall.do_all(("west", "leave", "ann"), ("east", "leave", "ann"))
            self.assertIs(caught.exception.reason.__class__, Busy)
            seen.append((caught.exception.index, len(east), len(west), east.busy))
            self.hall.do_all(("west", "leave", "bob"))

        east.do_all(("enter", "bob"), watch=watch)
        self.assertEqual((seen, len(east), len(west)), ([(1, 3, 2, True)], 3, 3))

    def test_what_undo_brings_back(self):
        with self.assertRaises(Stopped):
            self.hall.do_all(("east", "leave", "ann"), ("east", "close", None), ("west", "bye", None))
        east = self.keepers[0]
        east.undo()
        self.assertEqual(told(east.state), ("day", (("invited", ("ann", "bob")), ("inside", ()))))
        east.undo()
        self.refused(NothingToUndo, {}, east.undo)

    def test_within_a_trial(self):
        before = self.pictures()
        with self.keepers[0].trial():
            self.hall.do_all(("east", "leave", "ann"))
            with self.assertRaises(Stopped):
                self.hall.do_all(("east", "close", None), ("east", "close", None))
            self.assertEqual((self.keepers[0].mode, len(self.keepers[0])), ("day", 3))
        self.assertEqual(self.pictures(), before)

    def test_deeds_that_are_no_triples(self):
        before = self.pictures()
        good = ("east", "leave", "ann")
        for wrong in [("east", "close"), ("east", "close", None, None), ["east", "close", None], "abc", ()] + strange_values(tuple):
            self.refused(InvalidDeeds, {"index": 0}, self.hall.do_all, wrong)
            self.refused(InvalidDeeds, {"index": 1}, self.hall.do_all, good, wrong, wrong)
            self.refused(InvalidDeeds, {"index": 2}, self.hall.do_all, good, ("south", 5, 5), wrong)
        self.assertEqual(self.pictures(), before)

    def test_any_values_in_triples(self):
        for value in strange_values():
            self.stopped(1, UnknownKeeper, {}, ("east", "leave", "ann"), (value, value, value))
            self.stopped(1, UnknownCall, {"value": value}, ("east", "leave", "ann"), ("west", value, value))
            self.stopped(1, InvalidArgument, {"value": value}, ("east", "leave", "ann"), ("west", "enter", value))

    def test_any_deeds(self):
        chance = random.Random(51)
        designs = lively_designs(chance, 20)
        stops = 0
        for one, other in zip(designs, designs[1:]):
            hall, singles = Hall(), {"a": Keeper(one), "b": Keeper(other)}
            hall["a"], hall["b"] = one, other
            deeds = []
            for _ in range(chance.randint(1, 4)):
                name = chance.choice("ab")
                call, argument = any_deed(chance, singles[name].design, ("ann", "bob"))
                deeds.append((name, call, for_keeper(argument)))
            before = [picture(hall[name]) for name in hall]
            wrong = self.first_wrong(singles, deeds)
            if wrong is None:
                hall.do_all(*deeds)
                self.assertEqual([picture(hall[name]) for name in hall], [picture(singles[name]) for name in "ab"])
            else:
                with self.assertRaises(Stopped) as caught:
                    hall.do_all(*deeds)
                self.assertEqual(caught.exception.index, wrong)
                self.assertEqual([picture(hall[name]) for name in hall], before)
                stops += 1
        self.assertTrue(3 < stops < 19, stops)

    def first_wrong(self, keepers, deeds):
        """Do the deeds singly; the index of the first one that is refused, or None."""
        for at, (name, call, argument) in enumerate(deeds):
            if not keepers[name].can(call, argument):
                return at
            keepers[name].do(call, argument)
        return None
