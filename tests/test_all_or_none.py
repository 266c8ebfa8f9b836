"""Promises about undoing, trials, deeds that are done all or none, and facts of keepers (points 3, 4, 8 and 10)."""

import random

from onemember.designs import Design
from onemember.errors import Broken, Busy, InvalidArgument, InvalidDeeds, InvalidFacts, NothingToUndo, Refused
from onemember.errors import UnknownCall, WrongMode
from onemember.expressions import Fact
from onemember.keepers import Keeper, RosterKeeper, attempt, set_facts
from onemember.members import Members
from onemember.samples import sample_design
from tests.helper import CloseCase, picture, strange_values, told
from tests.plain import any_deed, lively_designs
from tests.test_keepers import for_keeper

KEPT = (Fact.read("inside <= invited"),)


class Own(Exception):
    """An exception that the program does not know."""


def begun():
    """A keeper of the sample with two deeds."""
    keeper = Keeper(sample_design())
    keeper.do_all(("invite", Members("ann", "bob")), ("enter", "ann"))
    return keeper


class UndoTest(CloseCase):

    def test_deed_by_deed_down_to_the_beginning(self):
        chance = random.Random(40)
        for design in lively_designs(chance, 25):
            keeper = Keeper(design)
            states, logs = [told(keeper.state)], [keeper.log]
            for _ in range(20):
                call, argument = any_deed(chance, design, ("ann", "bob"))
                if keeper.can(call, for_keeper(argument)):
                    keeper.do(call, for_keeper(argument))
                    states.append(told(keeper.state))
                    logs.append(keeper.log)
            while len(states) > 1:
                states.pop()
                logs.pop()
                self.assertIs(keeper.undo().__class__, tuple)
                self.assertEqual((told(keeper.state), keeper.log, len(keeper)), (states[-1], logs[-1], len(logs[-1])))
            for _ in range(2):
                self.refused(NothingToUndo, {}, keeper.undo)
            self.assertEqual(told(keeper.state), told(Keeper(design).state))

    def test_deeds_behind_an_undo(self):
        keeper = begun()
        keeper.undo()
        keeper.do("enter", "bob")
        self.assertEqual(keeper.log, (("invite", Members("ann", "bob")), ("enter", "bob")))
        keeper.undo()
        self.assertEqual(told(keeper.state)[1], (("invited", ("ann", "bob")), ("inside", ())))

    def test_a_deed_that_changes_nothing_is_undone_too(self):
        keeper = begun()
        keeper.do("leave", "cid")
        self.assertEqual(len(keeper), 3)
        self.assertEqual((keeper.undo(), len(keeper), keeper.members("inside")), ((), 2, Members("ann")))

    def test_the_mode_comes_back(self):
        keeper = begun()
        keeper.do("close")
        keeper.undo()
        self.assertEqual((keeper.mode, keeper.members("invited")), ("day", Members("ann", "bob")))


class TrialTest(CloseCase):

    def setUp(self):
        self.keeper = begun()
        self.keeper.facts = KEPT
        self.before = picture(self.keeper)

    def tearDown(self):
        self.assertEqual(picture(self.keeper), self.before)
        self.keeper.do("leave", "ann")
        self.assertEqual([told(self.keeper.state)[1][1], self.keeper.undo()[0][0]], [("inside", ()), "guests"])

    def test_the_block_gives_the_keeper(self):
        with self.keeper.trial() as same:
            self.assertIs(same, self.keeper)
            same.do("leave", "ann")
            self.assertEqual((same.members("inside"), len(same), same.busy), (Members(), 3, False))

    def test_an_empty_block(self):
        with self.keeper.trial():
            pass

    def test_deeds_undoing_and_facts(self):
        with self.keeper.trial():
            self.keeper.undo()
            self.keeper.undo()
            self.refused(NothingToUndo, {}, self.keeper.undo)
            self.keeper.facts = ()
            self.keeper.do_all(("close", None), ("begin", None), ("close", None))
            self.keeper.undo()
            self.keeper.facts = (Fact.read("invited <= none"),)

    def test_left_by_an_exception(self):
        for kind in (Own, KeyboardInterrupt, GeneratorExit):
            with self.assertRaises(kind):
                with self.keeper.trial():
                    self.keeper.undo()
                    self.keeper.facts = ()
                    raise kind("out")
            self.assertEqual(picture(self.keeper), self.before)

    def test_left_by_an_error_of_the_program(self):
        with self.assertRaises(Refused):
            with self.keeper.trial() as same:
                same.do("leave", "ann")
                same.do("enter", "cid")

    def test_left_by_return_and_break(self):
        def leave():
            with self.keeper.trial():
                self.keeper.do("leave", "ann")
                return self.keeper.members("inside")

        self.assertEqual(leave(), Members())
        self.assertEqual(picture(self.keeper), self.before)
        for _ in range(2):
            with self.keeper.trial():
                self.keeper.undo()
                break

    def test_blocks_within_blocks(self):
        keeper = self.keeper
        with keeper.trial():
            keeper.do("leave", "ann")
            first = picture(keeper)
            with keeper.trial():
                keeper.facts = ()
                keeper.undo()
                keeper.undo()
                second = picture(keeper)
                with keeper.trial():
                    keeper.undo()
                    keeper.do("close")
                self.assertEqual(picture(keeper), second)
                with self.assertRaises(Own):
                    with keeper.trial():
                        keeper.undo()
                        raise Own()
                self.assertEqual(picture(keeper), second)
            self.assertEqual(picture(keeper), first)
            keeper.undo()
            self.assertEqual(picture(keeper), self.before)

    def test_one_trial_entered_again(self):
        trial = self.keeper.trial()
        for _ in range(2):
            with trial:
                self.keeper.do("leave", "ann")
                middle = picture(self.keeper)
                with trial as same:
                    same.undo()
                    same.undo()
                self.assertEqual(picture(self.keeper), middle)
            self.assertEqual(picture(self.keeper), self.before)

    def test_as_when_it_was_entered(self):
        trial = self.keeper.trial()
        self.keeper.do("leave", "ann")
        later = picture(self.keeper)
        with trial:
            self.keeper.undo()
        self.assertEqual(picture(self.keeper), later)
        self.keeper.undo()

    def test_a_trial_that_is_not_entered(self):
        self.keeper.trial()
        self.keeper.do("leave", "ann")
        self.assertEqual(len(self.keeper), 3)
        self.keeper.undo()

    def test_two_keepers(self):
        other = begun()
        with self.keeper.trial(), other.trial():
            self.keeper.do("leave", "ann")
            other.do("leave", "ann")
        self.assertEqual(other.members("inside"), Members("ann"))

    def test_attempt(self):
        def act(keeper):
            keeper.do("leave", "ann")
            return (keeper, len(keeper), keeper.members("inside").names)

        found = attempt(self.keeper, act)
        self.assertIs(found[0], self.keeper)
        self.assertEqual(found[1:], (3, ()))
        self.assertEqual(picture(self.keeper), self.before)
        self.assertIs(attempt(act=lambda keeper: None, keeper=self.keeper), None)

    def test_attempt_passes_on_exceptions(self):
        raised = Own("out")

        def act(keeper):
            keeper.undo()
            raise raised

        with self.assertRaises(Own) as caught:
            attempt(self.keeper, act)
        self.assertIs(caught.exception, raised)
        self.assertEqual(picture(self.keeper), self.before)
        self.refused(NothingToUndo, {}, attempt, self.keeper, lambda keeper: [keeper.undo() for _ in range(3)])
        self.refused(Refused, {"index": 0}, attempt, self.keeper, lambda keeper: keeper("enter", "cid"))

    def test_attempts_within_attempts(self):
        def inner(keeper):
            keeper.do("close")

        def outer(keeper):
            keeper.facts = ()
            keeper.do("leave", "ann")
            attempt(keeper, inner)
            return (keeper.mode, keeper.members("inside").names)

        self.assertEqual(attempt(self.keeper, outer), ("day", ()))


class DoAllTest(CloseCase):

    def test_as_single_deeds(self):
        chance = random.Random(41)
        stopped = 0
        for design in lively_designs(chance, 60):
            together, single = Keeper(design), Keeper(design)
            deeds = [any_deed(chance, design, ("ann", "bob")) for _ in range(chance.randint(0, 5))]
            deeds = [(call, for_keeper(argument)) for call, argument in deeds]
            before = picture(together)
            error = None
            for deed in deeds:
                try:
                    single.do(*deed)
                except (WrongMode, Refused) as found:
                    error = found
                    break
            if error is None:
                self.assertIs(together.do_all(*deeds), None)
                self.assertEqual(picture(together), picture(single))
            else:
                self.refused(error.__class__, vars(error), together.do_all, *deeds)
                self.assertEqual(picture(together), before)
                stopped += 1
        self.assertTrue(10 < stopped < 50, stopped)

    def test_no_deeds(self):
        keeper = begun()
        before = picture(keeper)
        self.assertIs(keeper.do_all(), None)
        self.assertIs(keeper.do_all(watch=None), None)
        self.assertEqual(picture(keeper), before)

    def test_undo_takes_back_single_deeds(self):
        keeper = begun()
        self.assertEqual(len(keeper), 2)
        keeper.undo()
        self.assertEqual(keeper.log, (("invite", Members("ann", "bob")),))

    def test_the_first_deed_that_raises_an_error(self):
        keeper = begun()
        before = picture(keeper)
        good, missing = ("leave", "ann"), ("enter", "cid")
        for kind, attributes, deed in (
            (Refused, {"index": 0}, missing), (UnknownCall, {"value": "bye"}, ("bye", None)), (WrongMode, {"found": "day"}, ("begin", None)),
            (InvalidArgument, {"value": "Ann"}, ("enter", "Ann")), (InvalidArgument, {"value": None}, ("enter", None)),
        ):
            for deeds in ((deed,), (good, deed), (good, deed, missing), (good, ("close", None), ("begin", None), deed, ("bye", 5))):
                self.refused(kind, attributes, keeper.do_all, *deeds)
                self.assertEqual(picture(keeper), before)
                self.assertIs(keeper.busy, False)

    def test_deeds_that_are_no_pairs(self):
        keeper = begun()
        before = picture(keeper)
        seen = []
        for wrong in [("close",), ("close", None, None), ["close", None], "close", (), "ab"] + strange_values(tuple):
            for watch in (None, lambda keeper, at: seen.append(at)):
                self.refused(InvalidDeeds, {"index": 0}, keeper.do_all, wrong, watch=watch)
                self.refused(InvalidDeeds, {"index": 1}, keeper.do_all, ("leave", "ann"), wrong, watch=watch)
                self.refused(InvalidDeeds, {"index": 2}, keeper.do_all, ("bye", 5), ("enter", "cid"), wrong, wrong, watch=watch)
        self.assertEqual((seen, picture(keeper)), ([], before))

    def test_any_values_in_pairs(self):
        keeper = begun()
        before = picture(keeper)
        for value in strange_values():
            self.refused(UnknownCall, {"value": value}, keeper.do_all, ("leave", "ann"), (value, value))
            self.refused(InvalidArgument, {"value": value}, keeper.do_all, ("leave", "ann"), ("enter", value))
        self.assertEqual(picture(keeper), before)


class WatchTest(CloseCase):

    def test_watch_sees_the_deeds_up_to_this_one(self):
        keeper = Keeper(sample_design())
        keeper.do("invite", Members("ann"))
        deeds = (("enter", "ann"), ("invite", Members("bob")), ("close", None))
        seen = []

        def watch(same, at):
            self.assertIs(same, keeper)
            self.assertIs(same.busy, True)
            self.assertEqual(same.log, (("invite", Members("ann")),) + deeds[:at + 1])
            seen.append((at, len(same), same.mode, told(same.state), same.shown("awaited").names, same.can("leave", "ann")))

        self.assertIs(keeper.do_all(*deeds, watch=watch), None)
        self.assertEqual(seen, [
            (0, 2, "day", ("day", (("invited", ("ann",)), ("inside", ("ann",)))), (), True),
            (1, 3, "day", ("day", (("invited", ("ann", "bob")), ("inside", ("ann",)))), ("bob",), True),
            (2, 4, "night", ("night", (("invited", ()), ("inside", ("ann",)))), (), True),
        ])
        self.assertIs(keeper.busy, False)

    def test_watch_is_called_for_the_deeds_ahead_of_the_one_that_is_refused(self):
        keeper = Keeper(sample_design())
        before, seen = picture(keeper), []
        deeds = (("invite", Members("ann")), ("enter", "ann"), ("enter", "bob"), ("close", None))
        self.refused(Refused, {"index": 0}, keeper.do_all, *deeds, watch=lambda same, at: seen.append((at, len(same))))
        self.assertEqual((seen, picture(keeper)), ([(0, 1), (1, 2)], before))

    def test_what_changes_the_keeper_is_refused(self):
        keeper = begun()
        seen = []

        def watch(same, at):
            before = picture(same)
            self.refused(Busy, {}, same.do, "leave", "ann")
            self.refused(Busy, {}, same.do, "bye", 5)
            self.refused(Busy, {}, same, "leave", "ann")
            self.refused(Busy, {}, same.undo)
            self.refused(Busy, {}, same.do_all)
            self.refused(Busy, {}, same.do_all, 5)
            self.refused(Busy, {}, same.do_all, ("leave", "ann"), watch=watch)
            self.refused(Busy, {}, same.trial)
            self.refused(Busy, {}, set_facts, same, ())
            self.refused(Busy, {}, set_facts, same, 5)
            self.refused(Busy, {}, attempt, same, len)
            with self.assertRaises(Busy):
                same.facts = ()
            self.assertEqual(picture(same), before)
            seen.append(at)

        keeper.do_all(("leave", "ann"), ("close", None), watch=watch)
        self.assertEqual((seen, len(keeper), keeper.mode), ([0, 1], 4, "night"))
        keeper.undo()

    def test_can_tells_as_if_it_was_not_busy(self):
        keeper = begun()
        seen = []

        def watch(same, at):
            seen.append((same.can("enter", "bob"), same.can("enter", "cid"), same.can("begin"), same.can("close")))
            self.refused(UnknownCall, {"value": 5}, same.can, 5)
            self.refused(InvalidArgument, {"value": 5}, same.can, "enter", 5)

        keeper.do_all(("leave", "bob"), ("close", None), ("leave", "ann"), watch=watch)
        self.assertEqual(seen, [(True, False, False, True), (False, False, False, False), (False, False, True, False)])

    def test_its_exception_is_passed_on(self):
        keeper = begun()
        keeper.facts = KEPT
        before = picture(keeper)
        for raised in (Own("out"), Refused(7), Busy(), KeyboardInterrupt(), StopIteration()):
            for last in range(3):
                def watch(same, at):
                    if at == last:
                        raise raised

                with self.assertRaises(raised.__class__) as caught:
                    keeper.do_all(("leave", "ann"), ("enter", "bob"), ("enter", "ann"), watch=watch)
                self.assertIs(caught.exception, raised)
                self.assertEqual(picture(keeper), before)
                self.assertIs(keeper.busy, False)

    def test_a_busy_error_of_its_own_is_passed_on(self):
        keeper = begun()
        before = picture(keeper)
        self.refused(Busy, {}, keeper.do_all, ("leave", "ann"), watch=lambda same, at: same.undo())
        self.assertEqual(picture(keeper), before)
        keeper.do("leave", "ann")

    def test_other_keepers_are_free(self):
        keeper, other = begun(), begun()
        keeper.do_all(("leave", "ann"), watch=lambda same, at: other.do("enter", "bob"))
        self.assertEqual((keeper.members("inside").names, other.members("inside").names), ((), ("ann", "bob")))

    def test_within_a_trial(self):
        keeper = begun()
        before = picture(keeper)
        with keeper.trial():
            with self.assertRaises(Own):
                keeper.do_all(("leave", "ann"), watch=self.out)
            self.assertEqual(picture(keeper), before)
            keeper.do_all(("leave", "ann"), ("close", None))
        self.assertEqual(picture(keeper), before)

    def out(self, keeper, at):
        raise Own()

    def test_what_undo_brings_back(self):
        keeper = begun()
        with self.assertRaises(Own):
            keeper.do_all(("leave", "ann"), ("close", None), watch=lambda same, at: self.out(same, at) if at else None)
        keeper.undo()
        self.assertEqual(told(keeper.state), ("day", (("invited", ("ann", "bob")), ("inside", ()))))


class KeeperFactsTest(CloseCase):

    def test_facts_that_hold_are_taken(self):
        keeper = begun()
        for facts in (KEPT, (), KEPT + KEPT, (Fact.read("none <= inside"),) * 30):
            keeper.facts = facts
            self.assertIs(keeper.facts, facts)
            self.assertIs(set_facts(keeper, ()), None)
            self.assertEqual(keeper.facts, ())
            self.assertIs(set_facts(facts=facts, keeper=keeper), None)
            self.assertIs(keeper.facts, facts)

    def test_facts_that_do_not_hold(self):
        keeper = begun()
        keeper.facts = KEPT
        before = picture(keeper)
        broken = Fact.read("invited <= inside")
        for facts, index in (((broken,), 0), (KEPT + (broken, broken), 1), ((KEPT[0], KEPT[0], broken), 2)):
            self.refused(Broken, {"index": index}, set_facts, keeper, facts)
            with self.assertRaises(Broken):
                keeper.facts = facts
            self.assertEqual(picture(keeper), before)

    def test_a_deed_behind_which_one_would_not_hold(self):
        keeper = begun()
        keeper.facts = (Fact.read("none <= inside"), KEPT[0], Fact.read("inside <= none | invited"))
        before = picture(keeper)
        self.assertIs(keeper.can("close"), False)
        for act in (keeper.do, keeper, keeper.do_all):
            deed = (("close", None),) if act == keeper.do_all else ("close",)
            self.refused(Broken, {"index": 1}, act, *deed)
            self.assertEqual(picture(keeper), before)
        self.refused(Broken, {"index": 1}, keeper.do_all, ("enter", "bob"), ("close", None), ("begin", None))
        self.assertEqual(picture(keeper), before)
        keeper.do_all(("leave", "ann"), ("close", None))
        self.assertEqual(keeper.mode, "night")

    def test_behind_the_other_errors(self):
        keeper = begun()
        keeper.facts = KEPT
        self.refused(Refused, {"index": 0}, keeper.do, "enter", "cid")
        self.refused(WrongMode, {"found": "day"}, keeper.do, "begin")
        self.refused(InvalidArgument, {"value": 5}, keeper.do, "close", 5)
        self.refused(UnknownCall, {"value": "bye"}, keeper.can, "bye")
        calls = (("add", "many", (("m", (("given", "a"),), (("b", "given"),), "m"),)),)
        other = Keeper(Design(("a", "b"), ("m",), calls, ()))
        other.facts = (Fact.read("b <= none"),)
        self.refused(Refused, {"index": 0}, other.do, "add", Members("ann"))
        other.do("add", Members())

    def test_undoing_behind_which_one_would_not_hold(self):
        keeper = begun()
        keeper.do("enter", "bob")
        keeper.facts = (KEPT[0], Fact.read("invited <= inside"))
        before = picture(keeper)
        self.refused(Broken, {"index": 1}, keeper.undo)
        self.assertEqual(picture(keeper), before)
        keeper.facts = KEPT
        keeper.undo()
        self.assertIs(keeper.facts, KEPT)
        self.assertEqual(keeper.members("inside"), Members("ann"))
        keeper.undo()
        keeper.undo()
        self.refused(NothingToUndo, {}, keeper.undo)
        self.assertIs(keeper.facts, KEPT)

    def test_the_first_one_that_would_not_hold(self):
        calls = (("add", "one", (("m", (), (("a", ("|", "a", "given")),), "m"),)),)
        texts = ("a <= a", "b <= none", "a <= b", "a <= none")
        keeper = Keeper(Design(("a", "b"), ("m",), calls, ()))
        keeper.facts = tuple(Fact.read(text) for text in texts)
        self.refused(Broken, {"index": 2}, keeper.do, "add", "ann")
        keeper.facts = keeper.facts[:2]
        self.assertIs(keeper.can("add", "ann"), True)
        keeper.do("add", "ann")

    def test_facts_that_are_no_facts_of_the_design(self):
        keeper = begun()
        keeper.facts = KEPT
        before = picture(keeper)
        for wrong in strange_values(tuple) + [list(KEPT), KEPT[0]]:
            self.refused(InvalidFacts, {"index": None}, set_facts, keeper, wrong)
        others = [Fact.read(text) for text in ("inside <= given", "given <= none", "inside <= guests", "day <= none", "a <= b", "z <= z")]
        for wrong in others + ["inside <= invited", KEPT[0].form, KEPT] + strange_values(Fact):
            self.refused(InvalidFacts, {"index": 0}, set_facts, keeper, (wrong,))
            self.refused(InvalidFacts, {"index": 2}, set_facts, keeper, KEPT + KEPT + (wrong, 5))
            # Ahead of a fact that does not hold.
            self.refused(InvalidFacts, {"index": 1}, set_facts, keeper, (Fact.read("invited <= inside"), wrong))
        self.assertEqual(picture(keeper), before)

    def test_facts_stay_what_they_were_for_other_keepers(self):
        keeper, other = begun(), begun()
        keeper.facts = KEPT
        self.assertEqual(other.facts, ())
        other.do("close")

    def test_of_a_roster_keeper(self):
        keeper = RosterKeeper(sample_design(), Members("ann"))
        set_facts(keeper, (Fact.read("invited <= none"),))
        self.refused(Broken, {"index": 0}, keeper.do, "invite", Members("ann"))
        self.assertIs(keeper.can("invite", Members("ann")), False)
