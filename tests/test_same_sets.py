"""Promise 8: whether two expressions have the same members for all sets, and who is in just one of them."""

import itertools
import random

from onemember.errors import NotAnExpression, TooManyFields
from onemember.expressions import Expression, differing, same_sets
from onemember.members import Members
from tests.helper import CloseCase, any_form, strange_values, who

NINE = tuple("abcdefghi")


def first_by_hand(one, other, fields):
    """The first pair that tells two forms apart, out of all pairs, or None."""
    pairs = [(inside, given) for many in range(len(fields) + 1)
             for inside in itertools.combinations(sorted(fields), many) for given in (False, True)]
    for inside, given in sorted(pairs):
        sets = {name: ["x"] if name in inside else [] for name in fields}
        if who(one, sets, ["x"] * given) != who(other, sets, ["x"] * given):
            return (inside, given)
    return None


def all_of(names, sign="|"):
    """The expression of all these names with the sign."""
    found = Expression(names[0])
    for name in names[1:]:
        found = Expression((sign, found.form, name))
    return found


class SameTest(CloseCase):

    def test_same(self):
        same = (
            ("a", "a"), ("a", "a | a"), ("a | b", "b | a"), ("(a | b) - (a & b)", "a ^ b"), ("none", "a - a"),
            ("a & (b | c)", "(a & b) | (a & c)"), ("none", "b & none"), ("given", "given | none"),
            ("a - (b | given)", "(a - b) - given"), ("a ^ a", "b - b"), ("given ^ a", "a ^ given"),
        )
        for one, other in same:
            first, second = Expression.read(one), Expression.read(other)
            self.assertIs(same_sets(first, second), True)
            self.assertIs(differing(first, second), None)
            self.assertIs(differing(one=second, other=first), None)

    def test_not_same(self):
        cases = (
            ("a - b", "a", (("a", "b"), False)), ("a", "b", (("a",), False)), ("given", "none", ((), True)),
            ("a", "a | given", ((), True)), ("a & given", "none", (("a",), True)), ("a", "none", (("a",), False)),
            ("a ^ given", "a | given", (("a",), True)), ("b - a", "b", (("a", "b"), False)),
            ("b & c", "none", (("b", "c"), False)), ("(b & c) | (a & c)", "none", (("a", "b", "c"), False)),
            ("b", "c - a", (("a", "b"), False)), ("a & c", "b", (("a", "b"), False)),
            ("given", "z", ((), True)), ("b | a", "a", (("b",), False)),
        )
        for one, other, due in cases:
            first, second = Expression.read(one), Expression.read(other)
            for found in (differing(first, second), differing(second, first)):
                self.same(found, due)
                self.same(found[0], due[0])
                self.same(found[1], due[1])
            self.assertIs(same_sets(one=first, other=second), False)

    def test_any_expressions(self):
        chance = random.Random(13)
        answers = []
        for _ in range(250):
            one, other = any_form(chance, ("c", "a", "b"), 3), any_form(chance, ("a", "d", "b"), 3)
            first, second = Expression(one), Expression(other)
            fields = sorted(set(first.fields + second.fields))
            due = first_by_hand(one, other, fields)
            self.assertEqual(differing(first, second), due)
            self.assertIs(same_sets(first, second), due is None)
            answers.append(due)
        self.assertIn(None, answers)
        self.assertGreater(len([due for due in answers if due]), 50)

    def test_the_pair_is_an_example(self):
        one, other = Expression.read("(a | b) & c"), Expression.read("a | (b & c)")
        inside, given = differing(one, other)
        self.assertNotEqual(one.meets(inside, given=given), other.meets(inside, given=given))

    def test_eight_fields(self):
        eight = all_of(NINE[:8])
        self.assertIs(same_sets(eight, all_of(NINE[7::-1])), True)
        self.assertEqual(differing(all_of(NINE[:8], "&"), Expression("none")), (NINE[:8], False))
        self.assertEqual(differing(eight, all_of(NINE[:7])), (("h",), False))
        self.assertEqual(differing(eight | Expression("given"), eight), ((), True))
        self.assertEqual(differing(all_of(NINE[:4]), all_of(NINE[4:8])), (("a",), False))

    def test_nine_fields(self):
        for act in (same_sets, differing):
            self.refused(TooManyFields, {"limit": 8}, act, all_of(NINE), Expression("none"))
            self.refused(TooManyFields, {"limit": 8}, act, Expression("none"), all_of(NINE))
            self.refused(TooManyFields, {"limit": 8}, act, all_of(NINE), all_of(NINE))
            self.refused(TooManyFields, {"limit": 8}, act, all_of(NINE[:5]), all_of(NINE[4:]))
            self.refused(TooManyFields, {"limit": 8}, act, all_of(NINE[:8]), Expression("i"))

    def test_wrong_values(self):
        for act in (same_sets, differing):
            for wrong in ["a", Members("a")] + strange_values(Expression):
                self.refused(NotAnExpression, {"value": wrong}, act, wrong, Expression("a"))
                self.refused(NotAnExpression, {"value": wrong}, act, Expression("a"), wrong)
                self.refused(NotAnExpression, {"value": wrong}, act, wrong, "a")
                self.refused(NotAnExpression, {"value": wrong}, act, all_of(NINE), wrong)
                self.refused(NotAnExpression, {"value": wrong}, act, wrong, all_of(NINE))
