"""Promises about histories (point 11): played, written and read, all of them in their order, and cut to one member."""

import inspect
import itertools
import random

from onemember.designs import Design
from onemember.errors import InvalidArgument, InvalidHistory, InvalidNames, InvalidText, NotADesign, Refused, WrongMode
from onemember.histories import compare, histories, history_text, outcomes, play, read_history
from onemember.keepers import Keeper
from onemember.members import Members
from onemember.samples import sample_design
from tests.helper import CloseCase, picture, strange_values, told
from tests.plain import Plain, all_ways, any_deed, deeds, lively_designs, sets_of
from tests.test_keepers import for_keeper

DESIGN = sample_design()
WRONG_DEEDS = [
    ("bye", None), ("close", "x"), ("close", ()), ("close",), ("close", None, None), ["close", None], ("enter", "X"),
    ("enter", None), ("enter", ("x",)), ("invite", "x"), ("invite", None), ("invite", ["x"]), ("invite", ("y", "x")),
    ("invite", ("x", "x")), ("invite", ("x", "Y")), ("invite", (5,)), ("invite", Members("x")), ("enter", ""),
    ("invite", ("a", "b", "b")), ("guests", None), ("", None), "close", (), ("invite", ("x", ("y",))), ("enter", "ninechars"),
]


def any_history(chance, design, names, most):
    """A tuple of deeds, granted or not."""
    return tuple(any_deed(chance, design, names) for _ in range(chance.randint(0, most)))


class PlayTest(CloseCase):

    def test_the_keeper_behind_a_history(self):
        keeper = play(DESIGN, (("invite", ("ann", "bob")), ("enter", "ann"), ("close", None)))
        self.assertIs(keeper.__class__, Keeper)
        self.assertIs(keeper.design, DESIGN)
        self.assertEqual(told(keeper.state), ("night", (("invited", ()), ("inside", ("ann",)))))
        self.same(keeper.log, (("invite", Members("ann", "bob")), ("enter", "ann"), ("close", None)))
        keeper.undo()
        self.assertEqual(keeper.mode, "day")

    def test_the_empty_history(self):
        self.assertEqual(picture(play(DESIGN, ())), picture(Keeper(DESIGN)))
        self.assertEqual(picture(play(history=(), design=DESIGN)), picture(Keeper(DESIGN)))
        self.same(outcomes(DESIGN, ()), ())

    def test_a_new_keeper_each_time(self):
        one, other = play(DESIGN, ()), play(DESIGN, ())
        one.do("close")
        self.assertEqual((one.mode, other.mode), ("night", "day"))

    def test_the_first_deed_that_is_refused(self):
        self.refused(Refused, {"index": 0}, play, DESIGN, (("invite", ("x",)), ("enter", "y"), ("begin", None)))
        self.refused(WrongMode, {"found": "night"}, play, DESIGN, (("close", None), ("close", None), ("enter", "x")))
        self.refused(WrongMode, {"found": "day"}, play, DESIGN, (("begin", None),))

    def test_any_histories(self):
        chance = random.Random(60)
        granted = 0
        for design in lively_designs(chance, 60):
            for _ in range(6):
                way = any_history(chance, design, ("a", "x", "y"), 5)
                plain, due, error = Plain(design), [], None
                for call, argument in way:
                    mode = plain.mode
                    due.append(plain.do(call, argument))
                    if error is None and not due[-1]:
                        error = (WrongMode, {"found": mode}) if plain.wrong is None else (Refused, {"index": plain.wrong})
                self.same(outcomes(design, way), tuple(due))
                if error is None:
                    keeper, plain = play(design, way), Plain(design)
                    self.assertTrue(all(plain.do(*deed) for deed in way))
                    self.assertEqual((keeper.mode, tuple(names for _, names in told(keeper.state)[1])), plain.key())
                    self.assertEqual(keeper.log, tuple((call, for_keeper(argument)) for call, argument in way))
                    granted += 1
                else:
                    self.refused(error[0], error[1], play, design, way)
        self.assertGreater(granted, 50)

    def test_refused_deeds_change_nothing(self):
        way = (("enter", "x"), ("invite", ("x",)), ("begin", None), ("enter", "x"), ("close", None), ("begin", None), ("leave", "x"), ("begin", None))
        self.assertEqual(outcomes(DESIGN, way), (False, True, False, True, True, False, True, True))
        self.assertEqual(outcomes(history=way[:2], design=DESIGN), (False, True))

    def test_no_design(self):
        for wrong in strange_values(Design):
            for act in (play, outcomes):
                self.refused(NotADesign, {"value": wrong}, act, wrong, ())
                self.refused(NotADesign, {"value": wrong}, act, wrong, 5)

    def test_no_history(self):
        for act in (play, outcomes):
            for wrong in strange_values(tuple) + [[("close", None)]]:
                self.refused(InvalidHistory, {"index": None}, act, DESIGN, wrong)
            for wrong in WRONG_DEEDS + strange_values():
                self.refused(InvalidHistory, {"index": 0}, act, DESIGN, (wrong,))
                # Ahead of deeds that are refused.
                self.refused(InvalidHistory, {"index": 2}, act, DESIGN, (("close", None), ("enter", "x"), wrong, 5))
            for value in strange_values():
                self.refused(InvalidHistory, {"index": 1}, act, DESIGN, (("close", None), (value, value)))
                self.refused(InvalidHistory, {"index": 1}, act, DESIGN, (("close", None), ("enter", value)))


class TextTest(CloseCase):

    def test_texts(self):
        for way, text in (
            ((), ""), ((("close", None),), "close"), ((("enter", "x"),), "enter x"), ((("invite", ()),), "invite {}"),
            ((("invite", ("x",)),), "invite {x}"), ((("invite", ("ann", "bob")), ("enter", "ann"), ("close", None)), "invite {ann bob}; enter ann; close"),
            ((("abcdefgh", ("a", "abcdefgh", "b1")), ("a", "a"), ("a", None)), "abcdefgh {a abcdefgh b1}; a a; a"),
            ((("given", "none"), ("none", ("given",))), "given none; none {given}"),
        ):
            self.same(history_text(way), text)
            self.same(read_history(text), way)
            self.assertEqual((history_text(history=way), read_history(text=text)), (text, way))

    def test_any_histories(self):
        chance = random.Random(61)
        texts = {}
        names = ("a", "b", "c", "x1")
        for _ in range(500):
            way = tuple((chance.choice(("p", "q")), chance.choice([None, *names, *sets_of(names)])) for _ in range(chance.randint(0, 3)))
            self.assertEqual(read_history(history_text(way)), way)
            self.assertEqual(texts.setdefault(history_text(way), way), way)

    def test_long_histories(self):
        way = (("invite", tuple(sorted(f"n{at}" for at in range(1000)))), ("close", None)) * 5
        self.assertGreater(len(history_text(way)), 8000)
        self.assertEqual(read_history(history_text(way)), way)

    def test_no_history(self):
        for wrong in strange_values(tuple) + [[("close", None)]]:
            self.refused(InvalidHistory, {"index": None}, history_text, wrong)
        any_design = [("bye", None), ("close", "x"), ("close", ()), ("enter", None), ("enter", ("x",)), ("invite", "x"), ("invite", None), ("guests", None)]
        self.assertEqual(len(history_text(tuple(any_design)).split("; ")), len(any_design))
        for wrong in [deed for deed in WRONG_DEEDS + strange_values() if deed not in any_design + [("ann", "bob")]]:
            self.refused(InvalidHistory, {"index": 0}, history_text, (wrong,))
            self.refused(InvalidHistory, {"index": 1}, history_text, (("close", None), wrong, 5))
        for value in strange_values():
            self.refused(InvalidHistory, {"index": 0}, history_text, ((value, None),))
            if value not in (None, ("ann", "bob"), ()):
                self.refused(InvalidHistory, {"index": 0}, history_text, (("close", value),))

    def test_no_text(self):
        for wrong in strange_values():
            if wrong not in ("", "a b"):
                self.refused(InvalidText, {"value": wrong}, read_history, wrong)
        for wrong in (
            " ", "close ", " close", "close;", ";", "; ", "close; ", "; close", "close;enter x", "close ; enter x", "close;  enter x",
            "close, enter x", "close\nenter x", "Close", "enter  x", "enter x y", "enter X", "invite {x", "invite x}", "invite { x}",
            "invite {x }", "invite {x  y}", "invite {x,y}", "invite {y x}", "invite {x x}", "invite{x}", "invite {x} ", "invite {x} y",
            "invite {{x}}", "invite { }", "invite {}{}", "invite {X}", "invite {x; enter y", "invite {x; y}", "invite", "ninechars", "invite }",
            "invite {", "invite {}}", "{x}", "{}", "enter x;; close", "enter x; ; close", "close None", "invite ()", "invite {ninechars}", "1a",
        ):
            if wrong != "invite":
                self.refused(InvalidText, {"value": wrong}, read_history, wrong)

    def test_changed_texts(self):
        text = "invite {ann bob}; enter ann; close; invite {}"
        seen = set()
        for at in range(len(text) + 1):
            for changed in (text[:at] + text[at + 1:], *(text[:at] + sign + text[at:] for sign in " ;{}aA\n")):
                try:
                    way = read_history(changed)
                except InvalidText:
                    continue
                self.assertEqual(history_text(way), changed)
                seen.add(way)
        self.assertGreater(len(seen), 10)


class OrderTest(CloseCase):

    def test_the_order_of_the_point(self):
        ways = (
            (), (("invite", ()),), (("invite", ("a",)),), (("invite", ("a", "b")),), (("invite", ("b",)),), (("enter", "a"),),
            (("enter", "b"),), (("leave", "a"),), (("close", None),), (("begin", None),),
            (("invite", ()), ("invite", ())), (("invite", ()), ("begin", None)), (("invite", ("a",)), ("invite", ())),
            (("enter", "a"), ("leave", "x")), (("begin", None), ("enter", "a")), (("begin", None), ("begin", None)), (("close", None),) * 3,
        )
        for at, one in enumerate(ways):
            for place, other in enumerate(ways):
                self.same(compare(DESIGN, one, other), (at > place) - (at < place))
        self.assertEqual(compare(other=(), one=ways[1], design=DESIGN), 1)

    def test_any_two_histories(self):
        chance = random.Random(62)
        for design in lively_designs(chance, 30):
            ways = [any_history(chance, design, ("a", "b"), 3) for _ in range(12)]
            for one, other in itertools.product(ways, ways):
                self.same(compare(design, one, other), self.by_hand(design, one, other))

    def by_hand(self, design, one, other):
        """By the places of the deeds among all deeds."""
        ordered = deeds(design, ("a", "b"))
        left, right = ((len(way), [ordered.index(deed) for deed in way]) for way in (one, other))
        return (left > right) - (left < right)

    def test_errors(self):
        good = (("close", None),)
        for wrong in strange_values(Design):
            self.refused(NotADesign, {"value": wrong}, compare, wrong, (), ())
            self.refused(NotADesign, {"value": wrong}, compare, wrong, 5, 5)
        for wrong in strange_values(tuple):
            self.refused(InvalidHistory, {"index": None}, compare, DESIGN, wrong, 5)
            self.refused(InvalidHistory, {"index": None}, compare, DESIGN, good, wrong)
        for wrong in WRONG_DEEDS + strange_values():
            self.refused(InvalidHistory, {"index": 1}, compare, DESIGN, good + (wrong,), 5)
            self.refused(InvalidHistory, {"index": 2}, compare, DESIGN, good, good + good + (wrong,))


class AllHistoriesTest(CloseCase):

    def test_a_generator(self):
        found = histories(DESIGN, ("x",), most=6)
        self.assertTrue(inspect.isgenerator(found))
        self.assertEqual([next(found) for _ in range(3)], [(), (("invite", ()),), (("invite", ("x",)),)])

    def test_no_deeds(self):
        self.assertEqual(list(histories(DESIGN, ("x", "y"), most=0)), [()])
        self.assertEqual(list(histories(DESIGN, (), most=0)), [()])
        names = tuple("abcdefghijklmnopqrstuvwxyz")
        self.assertEqual(list(histories(DESIGN, names, most=0)), [()])
        self.assertEqual(list(histories(Design(("a",), ("m",), (), ()), ("x",), most=6)), [()])

    def test_no_names(self):
        found = list(histories(most=2, names=(), design=DESIGN))
        self.assertEqual([history_text(way) for way in found], [
            "", "invite {}", "close", "invite {}; invite {}", "invite {}; close", "close; begin"])

    def test_two_names(self):
        found = [history_text(way) for way in histories(DESIGN, ("a", "b"), most=1)]
        self.assertEqual(found, ["", "invite {}", "invite {a}", "invite {a b}", "invite {b}", "leave a", "leave b", "close"])

    def test_just_the_granted_ones_each_once_in_their_order(self):
        chance = random.Random(63)
        for design in lively_designs(chance, 25):
            for names, most in (((), 4), (("x",), 3), (("a", "b"), 2), (("a", "b", "c"), 1)):
                found = list(histories(design, names, most=most))
                self.assertEqual(found, [way for way, _ in all_ways(design, names, most)])
                for one, other in zip(found, found[1:]):
                    self.assertEqual((compare(design, one, other), compare(design, other, one)), (-1, 1))
                everything = [way for length in range(3) for way in itertools.product(deeds(design, names), repeat=length)]
                granted = [way for way in everything if all(outcomes(design, way))]
                self.assertEqual({way for way in found if len(way) < 3}, {way for way in granted if len(way) <= most})

    def test_up_to_six_deeds(self):
        call = ("go", "none", (("m", (), (), "n"), ("n", (), (), "m")))
        design = Design(("a",), ("m", "n"), (call,), ())
        for most in range(7):
            self.assertEqual(list(histories(design, ("x",), most=most)), [(("go", None),) * many for many in range(most + 1)])

    def test_errors(self):
        def first(*args, **named):
            return next(histories(*args, **named))

        for wrong in strange_values(Design):
            self.refused(NotADesign, {"value": wrong}, first, wrong, ("x",), most=2)
            self.refused(NotADesign, {"value": wrong}, first, wrong, 5, most=7)
        for wrong in strange_values(tuple) + [["x"]]:
            self.refused(InvalidNames, {"index": None}, first, DESIGN, wrong, most=7)
        for wrong in ["", "X", "1a", "ninechars", "x"] + strange_values():
            self.refused(InvalidNames, {"index": 1}, first, DESIGN, ("x", wrong, 5), most=7)
        for wrong in strange_values():
            self.refused(InvalidNames, {"index": 0}, first, DESIGN, (wrong, "a"), most=2)
        self.refused(InvalidNames, {"index": 1}, first, DESIGN, ("b", "a", "c"), most=2)
        self.refused(InvalidNames, {"index": 2}, first, DESIGN, ("a", "b", "b"), most=2)
        for wrong in [-1, 7, 100, True, False, "2", None] + [value for value in strange_values() if value not in (0, 1)]:
            self.refused(InvalidArgument, {"value": wrong}, first, DESIGN, ("x",), most=wrong)


class MembersAloneTest(CloseCase):

    def cut(self, design, way, name):
        """The history without deeds for other names, and with sets cut to this name."""
        kept = [(call, argument) for call, argument in way if design.sort_of(call) != "one" or argument == name]
        return tuple((call, tuple(one for one in argument if one == name) if isinstance(argument, tuple) else argument)
                     for call, argument in kept)

    def granted_way(self, chance, design, names, tries):
        keeper, way = Keeper(design), []
        for _ in range(tries):
            call, argument = any_deed(chance, design, names)
            if keeper.can(call, for_keeper(argument)):
                keeper.do(call, for_keeper(argument))
                way.append((call, argument))
        return tuple(way)

    def inside(self, keeper, name):
        return tuple(field for field in keeper.design.fields if name in keeper.members(field))

    def test_cut_to_one_name(self):
        chance = random.Random(64)
        names = ("ann", "bob", "cid", "x")
        for design in lively_designs(chance, 80, modes=2):
            way = self.granted_way(chance, design, names, 20)
            keeper = play(design, way)
            for name in names + ("zed",):
                alone = play(design, self.cut(design, way, name))
                self.assertEqual(self.inside(alone, name), self.inside(keeper, name))
                self.assertEqual(self.modes(alone), self.modes(keeper, name))
                for view in design.view_names:
                    self.assertIs(name in alone.shown(view), name in keeper.shown(view))
                self.assertEqual({one for field in design.fields for one in alone.members(field)} - {name}, set())

    def modes(self, keeper, name=None):
        """The modes behind the deeds that are not for another name."""
        found = []
        with keeper.trial():
            while len(keeper):
                call, argument = keeper.log[-1]
                if name is None or keeper.design.sort_of(call) != "one" or argument == name:
                    found.append(keeper.mode)
                keeper.undo()
        return found

    def test_several_copies_in_step(self):
        chance = random.Random(65)
        copies = ("x", "x1", "x2")
        for design in lively_designs(chance, 60):
            way = self.granted_way(chance, design, ("x",), 15)
            alone, together = play(design, way), Keeper(design)
            for call, argument in way:
                if argument == "x":
                    together.do_all(*[(call, one) for one in copies])
                else:
                    together.do(call, Members(*copies) if argument == ("x",) else for_keeper(argument))
            self.assertEqual(together.mode, alone.mode)
            for one in copies:
                self.assertEqual(self.inside(together, one), self.inside(alone, "x"))
                for view in design.view_names:
                    self.assertIs(one in together.shown(view), "x" in alone.shown(view))
