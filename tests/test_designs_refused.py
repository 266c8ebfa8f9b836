"""Promises about parts of designs that are refused (points 4, 7 and 9): which error, with which index."""

import random

from onemember.designs import Design
from onemember.errors import InvalidCalls, InvalidFields, InvalidModes, InvalidViews
from onemember.expressions import Expression
from tests.helper import CloseCase, balanced, chain, strange_values

FIELDS = ("a", "b")
MODES = ("m", "n")
NO_NAMES = ["", "A", "1a", "a b", "a_b", "ninechars", "a\n", " a"]


def call(*, name="c", sort="one", mode="m", facts=(), updates=(), after="m"):
    """A call with one case."""
    return (name, sort, ((mode, facts, updates, after),))


class FieldsTest(CloseCase):

    def test_no_tuple_or_a_wrong_number(self):
        for wrong in strange_values(tuple) + [(), ("a", "b", "c", "d", "e"), (1, 2, 3, 4, 5), ["a"]]:
            self.refused(InvalidFields, {"index": None}, Design, wrong, MODES, (), ())
            self.refused(InvalidFields, {"index": None}, Design, wrong, 5, 5, 5)

    def test_one_to_four(self):
        for many in range(1, 5):
            self.assertEqual(len(Design(("a", "b", "c", "d")[:many], MODES, (), ()).fields), many)

    def test_no_names(self):
        for wrong in NO_NAMES + ["given", "none"] + strange_values():
            self.refused(InvalidFields, {"index": 0}, Design, (wrong, 5), MODES, (), ())
            self.refused(InvalidFields, {"index": 2}, Design, ("a", "b", wrong, wrong), (), (), ())

    def test_a_name_twice(self):
        self.refused(InvalidFields, {"index": 1}, Design, ("a", "a", 5), MODES, (), ())
        self.refused(InvalidFields, {"index": 3}, Design, ("a", "b", "c", "b"), MODES, (), ())


class ModesTest(CloseCase):

    def test_no_tuple_or_a_wrong_number(self):
        for wrong in strange_values(tuple) + [(), ("a", "b", "c", "d", "e"), (1, 2, 3, 4, 5), ["m"]]:
            self.refused(InvalidModes, {"index": None}, Design, FIELDS, wrong, (), ())
            self.refused(InvalidModes, {"index": None}, Design, FIELDS, wrong, 5, 5)

    def test_one_to_four(self):
        for many in range(1, 5):
            self.assertEqual(len(Design(FIELDS, ("a", "b", "given", "none")[:many], (), ()).modes), many)

    def test_no_names(self):
        for wrong in NO_NAMES + strange_values():
            self.refused(InvalidModes, {"index": 0}, Design, FIELDS, (wrong, 5), (), ())
            self.refused(InvalidModes, {"index": 2}, Design, FIELDS, ("a", "b", wrong, wrong), 5, ())

    def test_a_name_twice(self):
        self.refused(InvalidModes, {"index": 1}, Design, FIELDS, ("m", "m", 5), (), ())
        self.refused(InvalidModes, {"index": 3}, Design, FIELDS, ("m", "n", "o", "n"), (), ())


class CallsTest(CloseCase):

    def wrong(self, *values):
        """Each of these is not valid, wherever it stands, and ahead of any view."""
        good = ("good", "many", ())
        for value in values:
            self.refused(InvalidCalls, {"index": 0}, Design, FIELDS, MODES, (value,), ())
            self.refused(InvalidCalls, {"index": 1}, Design, FIELDS, MODES, (good, value, 5), 5)
            self.refused(InvalidCalls, {"index": 0}, Design(FIELDS, MODES, (), ()).with_call, value)

    def right(self, *values):
        for value in values:
            self.assertEqual(Design(FIELDS, MODES, (value,), ()).calls, (value,))

    def test_no_tuple_or_too_many(self):
        nine = tuple((f"c{at}", "one", ()) for at in range(9))
        for wrong in strange_values(tuple) + [nine, (5,) * 9, [nine[0]]]:
            self.refused(InvalidCalls, {"index": None}, Design, FIELDS, MODES, wrong, ())
            self.refused(InvalidCalls, {"index": None}, Design, FIELDS, MODES, wrong, 5)
        self.assertEqual(len(Design(FIELDS, MODES, nine[:8], ())), 8)

    def test_no_triples(self):
        self.wrong(("c", "one"), ("c", "one", (), ()), ["c", "one", ()], "one", *strange_values())

    def test_names(self):
        self.wrong(*[(name, "one", ()) for name in NO_NAMES + strange_values()])
        self.right(("given", "one", ()), ("none", "none", ()), ("a", "many", ()))

    def test_a_name_twice(self):
        calls = (("c", "one", ()), ("d", "one", ()), ("c", "many", ()), 5)
        self.refused(InvalidCalls, {"index": 2}, Design, FIELDS, MODES, calls, ())

    def test_sorts(self):
        self.wrong(*[("c", sort, ()) for sort in ["", "One", "two", "oneone", "on", "given"] + strange_values()])

    def test_cases_that_are_no_tuple_or_too_many(self):
        case = ("m", (), (), "m")
        self.wrong(*[("c", "one", cases) for cases in strange_values(tuple)])
        self.wrong(("c", "one", [case]), ("c", "one", case), ("c", "one", (case, ("n", (), (), "n"), case)))
        self.wrong(("c", "one", (case, case)), ("c", "many", (("m", (), (), "n"), ("m", (), (), "m"))))
        self.right(("c", "one", (("n", (), (), "n"), case)), ("c", "many", (("m", (), (), "n"), ("n", (), (), "m"))))

    def test_no_cases(self):
        self.wrong(*[("c", "many", (case,)) for case in strange_values()])
        self.wrong(("c", "one", (["m", (), (), "m"],)), ("c", "one", (("m", (), ()),)), ("c", "one", (("m", (), (), "m", ()),)))

    def test_modes_and_modes_after(self):
        for wrong in ["", "o", "M", "c", "a"] + strange_values():
            self.wrong(call(mode=wrong, sort="many"), call(after=wrong, sort="many"))
            self.wrong(call(after=wrong), call(mode=wrong, after=wrong))
        self.wrong(call(after="n"), call(mode="n", after="m"))
        self.right(call(after="n", sort="many"), call(after="n", sort="none"), call(mode="n", after="n"))

    def test_facts(self):
        five = (("a", "b"),) * 5
        self.right(call(facts=five), call(facts=(("given", "none"),) * 2), call(facts=(("none", "given"),), sort="many"))
        self.wrong(call(facts=five + five[:1]), call(facts=[("a", "b")]), call(facts=("a", "b")))
        self.wrong(*[call(facts=facts) for facts in strange_values(tuple)])
        for fact in strange_values() + [("a",), ("a", "b", "a"), ["a", "b"], "ab"]:
            self.wrong(call(facts=(fact,)), call(facts=(("a", "b"), fact)))

    def test_updates(self):
        self.right(call(updates=(("b", "a"), ("a", "none"))), call(updates=(("a", "given"),), sort="many"))
        self.wrong(call(updates=[("a", "b")]), call(updates=("a", "b")), call(updates=(("a", "b"), ("a", "b"))))
        self.wrong(call(updates=(("c", "a"),)), call(updates=(("given", "a"),)), call(updates=(("none", "a"),)))
        self.wrong(call(updates=((("|", "a", "b"), "a"),)), call(updates=(("a", "b"), ("b", "a"), ("a", "a"))))
        self.wrong(*[call(updates=updates) for updates in strange_values(tuple)])
        for update in strange_values() + [("a",), ("a", "b", "a"), ["a", "b"], "ab"]:
            self.wrong(call(updates=(update,)), call(updates=(("b", "b"), update)))
        for value in strange_values():
            self.wrong(call(updates=((value, "a"),)))

    def test_forms(self):
        for form in wrong_forms():
            self.wrong(call(facts=((form, "a"),)), call(facts=(("a", form),), sort="many"), call(updates=(("a", form),)))
        for form in right_forms():
            self.right(call(facts=((form, "a"), ("b", form)), updates=(("a", form),), sort="none"))

    def test_forms_that_hold_themselves_again_and_again(self):
        fan = "a"
        for _ in range(29):
            fan = ("|", fan, ("&", fan, "b"))
        for calls, views in (((call(facts=((fan, "a"),)),), ()), ((call(updates=(("a", fan),)),), ()), ((), (("v", ("a", fan)),))):
            with self.assertRaises(InvalidCalls if calls else InvalidViews) as caught:
                Design(FIELDS, MODES, calls, views)
            self.assertEqual(caught.exception.index, 0)

    def test_given_in_a_call_of_the_sort_none(self):
        for form in ("given", ("|", "a", "given"), ("-", ("&", "none", ("^", "given", "a")), "b")):
            self.wrong(call(sort="none", facts=((form, "a"),)), call(sort="none", facts=(("a", form),)))
            self.wrong(call(sort="none", updates=(("a", form),)))
            self.right(call(facts=((form, form),), updates=(("a", form),)), call(updates=(("a", form),), sort="many"))


class ViewsTest(CloseCase):

    def wrong(self, *values):
        """Each of these is not valid, wherever it stands."""
        good = ("good", ("a", "none"))
        for value in values:
            self.refused(InvalidViews, {"index": 0}, Design, FIELDS, MODES, (), (value,))
            self.refused(InvalidViews, {"index": 1}, Design, FIELDS, MODES, (call(),), (good, value, 5))

    def test_no_tuple_or_too_many(self):
        five = tuple((f"v{at}", ("a", "b")) for at in range(5))
        for wrong in strange_values(tuple) + [five, (5,) * 5, [five[0]]]:
            self.refused(InvalidViews, {"index": None}, Design, FIELDS, MODES, (), wrong)
        self.assertEqual(len(Design(FIELDS, MODES, (), five[:4]).views), 4)

    def test_no_pairs(self):
        self.wrong(("v",), ("v", ("a", "b"), ()), ["v", ("a", "b")], "va", *strange_values())

    def test_names(self):
        self.wrong(*[(name, ("a", "b")) for name in NO_NAMES + strange_values()])
        views = (("given", ("a", "b")), ("none", ("a", "b")), ("a", ("a", "b")))
        self.assertEqual(Design(FIELDS, MODES, (), views).view_names, ("given", "none", "a"))

    def test_a_name_twice(self):
        views = (("v", ("a", "b")), ("w", ("a", "b")), ("v", ("b", "a")))
        self.refused(InvalidViews, {"index": 2}, Design, FIELDS, MODES, (), views)

    def test_a_form_for_each_mode(self):
        self.wrong(("v", ("a",)), ("v", ("a", "b", "a")), ("v", ["a", "b"]), ("v", ()), ("v", "ab"), ("v", "a"))
        self.wrong(*[("v", forms) for forms in strange_values(tuple)])
        one = Design(FIELDS, ("m",), (), (("v", ("a",)),))
        self.assertEqual(one.view_of("v", "m"), Expression("a"))

    def test_forms(self):
        for form in wrong_forms() + ["given", ("|", "a", "given"), ("-", ("&", "none", ("^", "given", "a")), "b")]:
            self.wrong(("v", (form, "a")), ("v", ("a", form)))
        for form in right_forms():
            views = (("v", ("none", form)),)
            self.assertEqual(Design(FIELDS, MODES, (), views).views, views)


class OrderTest(CloseCase):

    def test_the_first_one_that_is_due(self):
        self.refused(InvalidFields, {"index": 0}, Design, (5,), (5,), (5,), (5,))
        self.refused(InvalidModes, {"index": 0}, Design, ("a",), (5,), (5,), (5,))
        self.refused(InvalidCalls, {"index": 0}, Design, ("a",), ("m",), (5,), (5,))
        self.refused(InvalidViews, {"index": 0}, Design, ("a",), ("m",), (), (5,))
        self.refused(InvalidCalls, {"index": 1}, Design, ("a",), ("m",), (("c", "one", ()), call(after="n")), None)
        self.refused(InvalidFields, {"index": None}, Design, fields=(), modes=(), calls=5, views=5)

    def test_anything_in_any_place(self):
        chance = random.Random(11)
        values = strange_values()
        kinds = (InvalidFields, InvalidModes, InvalidCalls, InvalidViews)
        right = [("a", "b"), ("m", "n"), (call(),), (("v", ("a", "b")),)]
        for _ in range(3000):
            at = chance.randrange(4)
            parts = list(right)
            parts[at] = put_anywhere(chance, parts[at], chance.choice(values))
            try:
                Design(*parts)
            except kinds[at:]:
                # Fields or modes that are right may leave the calls or views wrong.
                continue
            # A name of a mode in the place of another one, or a fact fewer, may be right.
            self.assertEqual(Design(*parts), Design.read(str(Design(*parts))))


def put_anywhere(chance, whole, value):
    """The tuple with the value in the place of something in it."""
    if not isinstance(whole, tuple) or not whole or chance.random() < 0.2:
        return value
    at = chance.randrange(len(whole))
    return whole[:at] + (put_anywhere(chance, whole[at], value),) + whole[at + 1:]


def wrong_forms():
    """Values that are no form with the fields a and b, or that are too large for one."""
    fields_of_others = ["c", "ab", ("|", "a", "c"), ("&", ("-", "b", "zed"), "a")]
    large = [balanced(201), chain(21), chain(30), ("|", balanced(200), "b"), ("|", "b", chain(20))]
    no_forms = [("|", "a"), ("|", "a", "b", "a"), ("+", "a", "b"), ("a", "|", "b"), ["|", "a", "b"], ("|", ["a"], "b"), "a | b"]
    return fields_of_others + large + no_forms + strange_values()


def right_forms():
    """Forms with the fields a and b and none."""
    return ["a", "none", ("^", "b", "none"), balanced(200), chain(20), ("|", chain(19), balanced(180))]
