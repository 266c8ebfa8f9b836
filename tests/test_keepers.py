"""Promises about keepers and single deeds (points 4 and 10): what a deed does, when it is refused, what views tell."""

import random

from onemember.designs import Design
from onemember.errors import InvalidArgument, NotADesign, Refused, UnknownCall, UnknownField, UnknownView, WrongMode
from onemember.keepers import Keeper
from onemember.members import Change, Members
from onemember.samples import sample_design
from tests.helper import CloseCase, picture, strange_values, told
from tests.plain import Plain, any_deed, great_design, lively_designs

NAMES = ("ann", "bob", "cid", "x")


def for_keeper(argument):
    """The argument of a deed, as a keeper takes it."""
    return Members(*argument) if isinstance(argument, tuple) else argument


def shown(keeper):
    """The names in each view."""
    return {view: set(keeper.shown(view)) for view in keeper.design.view_names}


class NewKeeperTest(CloseCase):

    def test_a_new_keeper(self):
        design = sample_design()
        keeper = Keeper(design)
        self.assertIs(keeper.design, design)
        self.same(keeper.mode, "day")
        self.same(keeper.log, ())
        self.same(keeper.facts, ())
        self.same(keeper.busy, False)
        self.same(keeper.state, ("day", (("invited", Members()), ("inside", Members()))))
        self.assertEqual((len(keeper), bool(keeper), repr(keeper)), (0, False, "Keeper(day, 0 deeds)"))
        self.assertEqual(Keeper(design=design).state, keeper.state)

    def test_no_design(self):
        for wrong in strange_values(Design) + [str(sample_design())]:
            self.refused(NotADesign, {"value": wrong}, Keeper, wrong)

    def test_equal_to_itself_alone(self):
        design = sample_design()
        one, other = Keeper(design), Keeper(design)
        self.assertTrue(one == one and one != other and not one == other)
        for value in strange_values():
            self.assertIs(one == value, False)

    def test_a_design_without_calls(self):
        keeper = Keeper(Design(("a",), ("m",), (), (("v", ("a",)),)))
        self.assertEqual((keeper.shown("v"), keeper.members("a"), keeper.mode), (Members(), Members(), "m"))
        self.refused(UnknownCall, {"value": "a"}, keeper.do, "a")


class DeedsTest(CloseCase):

    def test_by_position_by_name_and_as_a_call(self):
        ways = (
            lambda keeper: keeper.do("invite", Members("ann")), lambda keeper: keeper("invite", Members("ann")),
            lambda keeper: keeper.do(argument=Members("ann"), call="invite"),
            lambda keeper: keeper(call="invite", argument=Members("ann")),
        )
        for act in ways:
            keeper = Keeper(sample_design())
            self.assertIs(keeper.can("invite", Members("ann")), True)
            self.assertIs(keeper.can(argument="ann", call="enter"), False)
            self.same(act(keeper), (("awaited", Change(Members("ann"), Members())),))
            self.assertEqual(told(keeper.state), ("day", (("invited", ("ann",)), ("inside", ()))))
            self.same(keeper.log, (("invite", Members("ann")),))
            self.assertEqual((len(keeper), repr(keeper), bool(keeper)), (1, "Keeper(day, 1 deeds)", True))

    def test_none_may_be_left_out(self):
        for act in (lambda k: k.do("close"), lambda k: k("close"), lambda k: k.do("close", None), lambda k: k("close", argument=None)):
            keeper = Keeper(sample_design())
            self.assertIs(keeper.can("close"), True)
            act(keeper)
            self.assertEqual((keeper.mode, keeper.log), ("night", (("close", None),)))
            self.assertIs(keeper.can("close"), False)

    def test_one_is_asked_and_done_for_x_alone(self):
        calls = (
            ("fill", "many", (("m", (), (("a", "given"), ("b", "none")), "m"),)),
            ("one", "one", (("m", (("a", "given"),), (("a", "none"), ("b", ("|", "a", "given"))), "m"),)),
        )
        keeper = Keeper(Design(("a", "b"), ("m",), calls, ()))
        keeper.do("fill", Members("ann", "bob"))
        # For bob: he is in a and given. That ann is in a and not given plays no role.
        keeper.do("one", "bob")
        self.assertEqual(told(keeper.state)[1], (("a", ("ann",)), ("b", ("bob",))))
        keeper.do("one", "cid")
        self.assertEqual(told(keeper.state)[1], (("a", ("ann",)), ("b", ("bob", "cid"))))

    def test_many_is_asked_and_done_for_all(self):
        calls = (
            ("fill", "many", (("m", (), (("a", ("|", "a", "given")),), "m"),)),
            ("most", "many", (("m", (("a", "given"),), (("a", "none"), ("b", ("|", "a", "given"))), "m"),)),
        )
        keeper = Keeper(Design(("a", "b"), ("m",), calls, ()))
        keeper.do("fill", Members("ann", "bob"))
        self.refused(Refused, {"index": 0}, keeper.do, "most", Members("bob"))
        self.refused(Refused, {"index": 0}, keeper.do, "most", Members())
        keeper.do("most", Members("ann", "bob", "cid"))
        self.assertEqual(told(keeper.state)[1], (("a", ()), ("b", ("ann", "bob", "cid"))))
        keeper.do("most", Members())
        self.assertEqual(told(keeper.state)[1], (("a", ()), ("b", ())))

    def test_none_has_nobody_given(self):
        calls = (
            ("fill", "many", (("m", (), (("a", "given"),), "n"),)),
            ("swap", "none", (("n", (("b", "a"),), (("a", "b"), ("b", ("-", "a", "b"))), "m"), ("m", (("a", "none"),), (), "m"))),
        )
        keeper = Keeper(Design(("a", "b"), ("m", "n"), calls, ()))
        keeper.do("swap")
        keeper.do("fill", Members("ann", "bob"))
        keeper.do("swap")
        self.assertEqual(told(keeper.state), ("m", (("a", ()), ("b", ("ann", "bob")))))

    def test_all_updates_are_done_at_once(self):
        fill = ("fill", "many", (("m", (), (("a", ("|", "a", "given")),), "m"),))
        for sort, argument in (("one", "ann"), ("many", Members("bob")), ("none", None)):
            swap = ("swap", sort, (("m", (), (("a", "b"), ("b", "a")), "m"),))
            keeper = Keeper(Design(("a", "b"), ("m",), (fill, swap), ()))
            keeper.do("fill", Members("ann", "bob"))
            keeper.do("swap", argument)
            due = (("bob",), ("ann",)) if sort == "one" else ((), ("ann", "bob"))
            self.assertEqual(tuple(names for _, names in told(keeper.state)[1]), due)
            keeper.do("fill", Members())
            keeper.do("swap", argument)
            self.assertEqual(keeper.members("a"), Members("ann", "bob"))

    def test_the_index_of_the_first_fact_that_does_not_hold(self):
        facts = (("a", "a"), ("given", "a"), ("given", "b"), ("none", "a"), ("given", "none"))
        for sort, wrap in (("one", str), ("many", Members)):
            calls = (
                ("try", sort, (("m", facts, (), "m"),)),
                ("a", "many", (("m", (), (("a", "given"),), "m"),)), ("b", "many", (("m", (), (("b", "given"),), "m"),)),
            )
            keeper = Keeper(Design(("a", "b"), ("m",), calls, ()))
            self.refused(Refused, {"index": 1}, keeper.do, "try", wrap("ann"))
            keeper.do("a", Members("ann"))
            self.refused(Refused, {"index": 2}, keeper.do, "try", wrap("ann"))
            keeper.do("b", Members("ann", "bob"))
            self.refused(Refused, {"index": 4}, keeper.do, "try", wrap("ann"))

    def test_any_deeds_as_a_plain_keeper_does_them(self):
        chance = random.Random(30)
        refusals = 0
        for design in lively_designs(chance, 60):
            keeper, plain = Keeper(design), Plain(design)
            for _ in range(25):
                call, argument = any_deed(chance, design, NAMES)
                refusals += self.one_deed(keeper, plain, call, argument)
        self.assertGreater(refusals, 100)

    def test_the_greatest_design(self):
        chance = random.Random(31)
        design = great_design(chance)
        keeper, plain = Keeper(design), Plain(design)
        done = 0
        for _ in range(40):
            call, argument = any_deed(chance, design, NAMES[:2])
            done += not self.one_deed(keeper, plain, call, argument)
        self.assertGreater(done, 5)

    def one_deed(self, keeper, plain, call, argument):
        """Whether the deed is refused; it does just what the plain keeper does."""
        before, mode, log = picture(keeper), keeper.mode, keeper.log
        seen = {view: plain.view(view) for view in plain.design.view_names}
        passed = for_keeper(argument)
        granted = plain.do(call, argument)
        self.assertIs(keeper.can(call, passed), granted)
        self.assertEqual(picture(keeper), before)
        if granted:
            changes = keeper.do(call, passed)
            self.assertEqual(keeper.log, (*log, (call, passed)))
            self.same_changes(changes, seen, {view: plain.view(view) for view in plain.design.view_names})
        elif plain.wrong is None:
            self.refused(WrongMode, {"found": mode}, keeper.do, call, passed)
            self.assertEqual(picture(keeper), before)
        else:
            self.refused(Refused, {"index": plain.wrong}, keeper.do, call, passed)
            self.assertEqual(picture(keeper), before)
        self.assertEqual((keeper.state[0], tuple(members.names for _, members in keeper.state[1])), plain.key())
        self.assertEqual([field for field, _ in keeper.state[1]], list(plain.design.fields))
        self.assertEqual(keeper.mode, plain.mode)
        for field in plain.design.fields:
            self.assertEqual(set(keeper.members(field)), plain.sets[field])
        self.assertEqual(shown(keeper), {view: plain.view(view) for view in plain.design.view_names})
        self.assertEqual(len(keeper), len(keeper.log))
        return not granted

    def same_changes(self, changes, before, behind):
        """Just the views that have other members, in their order, with who came and who went."""
        self.assertIs(changes.__class__, tuple)
        due = [(view, behind[view] - before[view], before[view] - behind[view])
               for view in before if before[view] != behind[view]]
        self.assertEqual([(view, set(change.came), set(change.went)) for view, change in changes], due)
        for pair in changes:
            self.assertIs(pair.__class__, tuple)
            self.assertIs(pair[1].__class__, Change)


class RefusedTest(CloseCase):

    def setUp(self):
        self.keeper = Keeper(sample_design())
        self.keeper.do("invite", Members("ann", "bob"))
        self.keeper.do("enter", "ann")
        self.before = picture(self.keeper)

    def tearDown(self):
        self.assertEqual(picture(self.keeper), self.before)

    def each(self, kind, value, *args):
        """The error comes for do, for can and for the call of the object."""
        for act in (self.keeper.do, self.keeper.can, self.keeper):
            self.refused(kind, {"value": value}, act, *args)

    def test_unknown_calls(self):
        for wrong in ["", "Enter", "enter ", "guests", "day", "inside", ("enter", "ann")] + strange_values():
            self.each(UnknownCall, wrong, wrong)
            self.each(UnknownCall, wrong, wrong, "ann")
            self.each(UnknownCall, wrong, wrong, 5)

    def test_a_name_is_due_for_one(self):
        for wrong in ["", "Ann", "ninechars", "a b", ("ann",), ["ann"], Members("ann")] + strange_values():
            self.each(InvalidArgument, wrong, "enter", wrong)
            self.each(InvalidArgument, wrong, "leave", wrong)
        self.each(InvalidArgument, None, "enter")
        self.assertIs(self.keeper.can("enter", "given"), False)

    def test_members_are_due_for_many(self):
        for wrong in ["ann", ("ann",), ("ann", "bob")] + strange_values(Members):
            self.each(InvalidArgument, wrong, "invite", wrong)
        self.each(InvalidArgument, None, "invite")

    def test_none_is_due_for_none(self):
        for wrong in ["ann", Members(), (), False, 0] + strange_values():
            if wrong is not None:
                self.each(InvalidArgument, wrong, "close", wrong)
                self.each(InvalidArgument, wrong, "begin", wrong)

    def test_which_error_is_due_first(self):
        night = Keeper(sample_design())
        night.do("close")
        # Each call has no case for the mode, or a fact that does not hold, too.
        self.refused(UnknownCall, {"value": "entry"}, night.do, "entry", 5)
        self.refused(InvalidArgument, {"value": "Ann"}, night.do, "enter", "Ann")
        self.refused(InvalidArgument, {"value": "ann"}, night.can, "invite", "ann")
        self.refused(InvalidArgument, {"value": 5}, night, "close", 5)
        self.refused(WrongMode, {"found": "night"}, night.do, "enter", "ann")
        self.refused(WrongMode, {"found": "night"}, night, "close")
        self.refused(Refused, {"index": 0}, self.keeper.do, "enter", "cid")
        self.refused(Refused, {"index": 0}, self.keeper, call="enter", argument="given")
        self.refused(WrongMode, {"found": "day"}, self.keeper.do, "begin")

    def test_unknown_fields_and_views(self):
        for wrong in ["", "guests", "day", "given", "none", "Inside"] + strange_values():
            self.refused(UnknownField, {"value": wrong}, self.keeper.members, wrong)
        for wrong in ["", "inside", "day", "given", "none", "Guests"] + strange_values():
            self.refused(UnknownView, {"value": wrong}, self.keeper.shown, wrong)
        self.assertEqual(self.keeper.members(field="inside"), Members("ann"))
        self.assertEqual(self.keeper.shown(view="awaited"), Members("bob"))

    def test_what_is_told_does_not_change_with_the_keeper(self):
        keeper = Keeper(sample_design())
        first = (keeper.state, keeper.log, keeper.members("inside"), keeper.shown("guests"))
        keeper.do("invite", Members("ann"))
        second = (keeper.state, keeper.log, keeper.members("inside"), keeper.shown("guests"))
        keeper.do("enter", "ann")
        self.assertEqual(told(first[0])[1], (("invited", ()), ("inside", ())))
        self.assertEqual(first[1:], ((), Members(), Members()))
        self.assertEqual(told(second[0])[1], (("invited", ("ann",)), ("inside", ())))
        self.assertEqual(second[1:], ((("invite", Members("ann")),), Members(), Members()))


class ViewChangesTest(CloseCase):

    def test_only_views_that_have_other_members(self):
        keeper = Keeper(sample_design())
        self.assertEqual(keeper.do("invite", Members("ann", "bob")), (("awaited", Change(Members("ann", "bob"), Members())),))
        self.assertEqual(keeper.do("invite", Members("ann")), ())
        self.assertEqual(keeper.do("enter", "ann"), (
            ("guests", Change(Members("ann"), Members())), ("awaited", Change(Members(), Members("ann")))))
        self.assertEqual(keeper.do("leave", "cid"), ())
        self.assertEqual(keeper.undo(), ())
        self.assertEqual(keeper.undo(), (
            ("guests", Change(Members(), Members("ann"))), ("awaited", Change(Members("ann"), Members()))))
        self.assertEqual(keeper.undo(), ())
        self.assertEqual(keeper.undo(), (("awaited", Change(Members(), Members("ann", "bob"))),))

    def test_where_the_mode_alone_changes(self):
        calls = (
            ("add", "one", (("m", (), (("a", ("|", "a", "given")),), "m"),)),
            ("turn", "none", (("m", (), (), "n"), ("n", (), (), "m"))),
        )
        views = (("v", ("a", "b")), ("w", ("a", "a")), ("u", ("none", "a")))
        keeper = Keeper(Design(("a", "b"), ("m", "n"), calls, views))
        keeper.do("add", "ann")
        ann, none = Members("ann"), Members()
        self.assertEqual(keeper.do("turn"), (("v", Change(none, ann)), ("u", Change(ann, none))))
        self.assertEqual(keeper.undo(), (("v", Change(ann, none)), ("u", Change(none, ann))))
        self.assertEqual(keeper.do("turn"), (("v", Change(none, ann)), ("u", Change(ann, none))))
        self.assertEqual(keeper.do("turn"), (("v", Change(ann, none)), ("u", Change(none, ann))))

    def test_who_came_and_who_went(self):
        calls = (("only", "many", (("m", (), (("a", "given"),), "m"),)),)
        keeper = Keeper(Design(("a",), ("m",), calls, (("v", ("a",)),)))
        keeper.do("only", Members("ann", "bob"))
        self.assertEqual(keeper.do("only", Members("bob", "cid", "dan")), (("v", Change(Members("cid", "dan"), Members("ann"))),))
        self.assertEqual(keeper.undo(), (("v", Change(Members("ann"), Members("cid", "dan"))),))
