"""Promises 1 and 2: Members, made from names and from their text, and as sets."""

import operator
import random

from onemember.errors import InvalidNames, InvalidText, NotMembers
from onemember.members import Change, Members
from tests.helper import CloseCase, own_objects, plain_values, strange_values

NAMES = ("a", "b", "ann", "bob", "cid", "a1", "z9", "abcdefgh", "a2345678")
NO_NAMES = (
    "", " ", "A", "Ann", "annA", "1", "1a", "a b", "a_b", "a-b", "a.b", "abcdefghi", "a23456789", " ann", "ann ",
    "ann\n", "\n", "~", "{", "`", "@", "[", "/", ":", "a`", "a{", "a/", "a:", "a@", "a[", "(a)", "*",
    "\u00e9", "a\u00e9", "\u0430nn", "a\u0661", "a\u00b2",
)


class MakingTest(CloseCase):

    def test_names_are_ascending_and_stand_once(self):
        found = Members("cid", "ann", "bob", "ann", "cid")
        self.same(found.names, ("ann", "bob", "cid"))

    def test_no_names(self):
        none = Members()
        self.same(none.names, ())
        self.assertEqual((str(none), repr(none), len(none), list(none)), ("", "Members(0)", 0, []))
        self.assertFalse(none)

    def test_text_length_repr_and_truth(self):
        three = Members("cid", "bob", "a1")
        self.assertEqual((str(three), repr(three), len(three)), ("a1 bob cid", "Members(3)", 3))
        self.assertTrue(three)
        self.assertEqual(repr(Members("ann")), "Members(1)")

    def test_order_is_that_of_strings(self):
        self.assertEqual(Members("b", "a", "a1", "aa", "a0b", "ab1").names, ("a", "a0b", "a1", "aa", "ab1", "b"))

    def test_names_of_all_lengths(self):
        for length in range(1, 9):
            name = "abcdefgh"[:length]
            self.assertEqual(Members(name).names, (name,))
        for letter in "abcdefghijklmnopqrstuvwxyz":
            self.assertEqual(Members(letter + "0123456").names, (letter + "0123456",))
        self.assertEqual(Members("abc789", "given", "none").names, ("abc789", "given", "none"))

    def test_iterating_gives_the_names(self):
        both = Members("bob", "ann")
        self.assertEqual([name for name in both], ["ann", "bob"])
        self.assertEqual(list(both), ["ann", "bob"])

    def test_what_is_in_them(self):
        some = Members("ann", "bob")
        self.assertIs("ann" in some, True)
        self.assertIs("cid" in some, False)
        self.assertIs("an" in some, False)
        self.assertIs("ann bob" in some, False)
        for value in plain_values() + own_objects():
            self.assertIs(value in some, False)
            self.assertIs(value not in some, True)

    def test_from_names(self):
        self.same(Members.from_names(("bob", "ann", "bob")).names, ("ann", "bob"))
        self.same(Members.from_names(names=()).names, ())

    def test_many_names(self):
        names = [f"m{number}" for number in range(3000)]
        found = Members(*reversed(names))
        self.assertEqual(found.names, tuple(sorted(names)))
        self.assertEqual(Members.read(str(found)), found)

    def test_wrong_arguments(self):
        for wrong in list(NO_NAMES) + strange_values():
            self.refused(InvalidNames, {"index": 0}, Members, wrong)
            self.refused(InvalidNames, {"index": 2}, Members, "bob", "bob", wrong, "ann")
            self.refused(InvalidNames, {"index": 1}, Members, "bob", wrong, 5, wrong)

    def test_wrong_tuples(self):
        for wrong in strange_values(tuple):
            self.refused(InvalidNames, {"index": None}, Members.from_names, wrong)
        for wrong in list(NO_NAMES) + strange_values():
            self.refused(InvalidNames, {"index": 1}, Members.from_names, ("ann", wrong, wrong))
            self.refused(InvalidNames, {"index": 0}, Members.from_names, (wrong,))
        self.refused(InvalidNames, {"index": None}, Members.from_names, "ann")
        self.refused(InvalidNames, {"index": None}, Members.from_names, ["ann"])

    def test_what_is_passed_stays(self):
        names = ["bob", "ann", "bob"]
        Members(*names)
        self.assertEqual(names, ["bob", "ann", "bob"])


class ReadingTest(CloseCase):

    def test_texts_are_read(self):
        for names in ((), ("ann",), ("ann", "bob"), NAMES):
            found = Members(*names)
            self.same(Members.read(str(found)).names, found.names)
        self.assertEqual(Members.read(text="a b z9").names, ("a", "b", "z9"))

    def test_other_strings(self):
        wrong = (
            " ", "  ", " ann", "ann ", "ann  bob", "bob ann", "ann ann", "ann\nbob", "ann, bob", "Ann", "ann bob\n",
            "ann 1b", "abcdefghi", "ann cid bob", "a b b", "()", "~" * 8000,
        )
        for text in wrong:
            self.refused(InvalidText, {"value": text}, Members.read, text)

    def test_other_values(self):
        for value in strange_values(str):
            self.refused(InvalidText, {"value": value}, Members.read, value)


class EqualityTest(CloseCase):

    def test_equal_if_the_names_are(self):
        self.assertTrue(Members("ann", "bob") == Members("bob", "ann", "bob"))
        self.assertFalse(Members("ann", "bob") != Members("bob", "ann", "bob"))
        self.assertTrue(Members() == Members())
        self.assertFalse(Members("ann") == Members("ann", "bob"))
        self.assertTrue(Members("ann") != Members("bob"))

    def test_never_equal_to_another_class(self):
        alike = [("ann",), ["ann"], "ann", {"ann"}, frozenset(("ann",)), Change(Members("ann"), Members())]
        for value in alike + strange_values(Members):
            self.assertIs(Members("ann") == value, False)
            self.assertIs(value == Members("ann"), False)
            self.assertIs(Members("ann") != value, True)
        self.assertFalse(Members() == ())


class SetsTest(CloseCase):

    def test_the_four_signs(self):
        one, other = Members("a", "b", "c"), Members("b", "c", "d")
        self.assertEqual((one | other).names, ("a", "b", "c", "d"))
        self.assertEqual((one & other).names, ("b", "c"))
        self.assertEqual((one - other).names, ("a",))
        self.assertEqual((other - one).names, ("d",))
        self.assertEqual((one ^ other).names, ("a", "d"))
        self.assertEqual((one.names, other.names), (("a", "b", "c"), ("b", "c", "d")))

    def test_signs_with_no_names_and_with_themselves(self):
        some, none = Members("ann", "bob"), Members()
        for found in (some | none, none | some, some | some, some & some, some - none, some ^ none, none ^ some):
            self.assertEqual(found, some)
        for found in (some & none, none & some, some - some, none - some, some ^ some, none | none, none ^ none):
            self.assertEqual(found, none)

    def test_signs_and_comparisons_are_those_of_sets(self):
        chance = random.Random(6)
        signs = (operator.or_, operator.and_, operator.sub, operator.xor)
        orders = (operator.le, operator.lt, operator.ge, operator.gt, operator.eq, operator.ne)
        for _ in range(400):
            one = {name for name in NAMES[:4] if chance.random() < 0.5}
            other = {name for name in NAMES[:4] if chance.random() < 0.5}
            left, right = Members(*one), Members(*other)
            for sign in signs:
                found = sign(left, right)
                self.assertIs(found.__class__, Members)
                self.same(found.names, tuple(sorted(sign(one, other))))
            for order in orders:
                self.assertIs(order(left, right), order(one, other))

    def test_comparisons(self):
        one, two = Members("ann"), Members("ann", "bob")
        cases = (
            (one, two, (True, True, False, False)), (two, one, (False, False, True, True)),
            (one, Members("ann"), (True, False, True, False)), (one, Members("bob"), (False, False, False, False)),
            (Members(), one, (True, True, False, False)), (Members(), Members(), (True, False, True, False)),
            (Members("a", "b"), Members("b", "c", "d"), (False, False, False, False)),
        )
        for left, right, due in cases:
            self.assertEqual((left <= right, left < right, left >= right, left > right), due)

    def test_in_place_forms_make_new_members(self):
        cases = (
            (operator.ior, ("a", "b", "c")), (operator.iand, ("b",)), (operator.isub, ("a",)),
            (operator.ixor, ("a", "c")),
        )
        for act, due in cases:
            first = second = Members("a", "b")
            other = Members("b", "c")
            first = act(first, other)
            self.assertEqual((first.names, second.names, other.names), (due, ("a", "b"), ("b", "c")))
            self.assertIsNot(first, second)

    def test_in_place_signs(self):
        first = second = Members("a")
        first |= Members("b", "c")
        third = first
        first &= Members("a", "b")
        fourth = first
        first -= Members("a")
        fifth = first
        first ^= Members("b", "d")
        found = [each.names for each in (second, third, fourth, fifth, first)]
        self.assertEqual(found, [("a",), ("a", "b", "c"), ("a", "b"), ("b",), ("d",)])

    def test_wrong_right_operands(self):
        acts = (
            operator.or_, operator.and_, operator.sub, operator.xor, operator.ior, operator.iand, operator.isub,
            operator.ixor, operator.le, operator.lt, operator.ge, operator.gt,
        )
        for left in (Members("ann", "bob"), Members()):
            for act in acts:
                for wrong in strange_values(Members):
                    self.refused(NotMembers, {"value": wrong}, act, left, wrong)
