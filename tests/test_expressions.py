"""Promises 4 and 5: expressions, their forms and texts, and what is refused."""

import operator
import random

from onemember.errors import InvalidForm, InvalidText, NotAnExpression, TooManyLeaves, TooManyLevels
from onemember.expressions import Expression, Fact
from onemember.members import Members
from tests.helper import CloseCase, any_form, balanced, chain, chain_text, nested, plain_values, strange_values

SIGNS = (("|", operator.or_), ("&", operator.and_), ("-", operator.sub), ("^", operator.xor))
LATE = ("-", "invited", ("|", "inside", "given"))


def is_name(value):
    """Whether a string is a name, told another way than in the package."""
    letters = "abcdefghijklmnopqrstuvwxyz"
    return 1 <= len(value) <= 8 and value[0] in letters and set(value) <= set(letters + "0123456789")


def no_forms():
    """Values that are no forms."""
    wrong = [value for value in strange_values() if not (isinstance(value, str) and is_name(value))]
    return wrong + [
        "ninechars", "Ann", "1a", "a b", "a | b", "|", "(a)",
        ("|", "a", "b", "c"), ("|", "a"), ("|",), ("+", "a", "b"), ("a", "|", "b"), ("||", "a", "b"), ("", "a", "b"),
        ["|", "a", "b"], ("|", ["&", "a", "b"], "c"), ("|", "a", 5), ("|", None, "a"), ("|", "a", "B"),
        ("|", True, True), ("|", 5, 5), ("|", (), ()), ("|", Expression("a"), "b"), (b"|", "a", "b"), (5, "a", "b"),
        (["|"], "a", "b"), ("|", "a", ("&", "b", ("-", "c", ("^", "d", "|")))), ("|", ("a", "b"), "c"),
        ("|", "", ""), ("|", ("|", 1, 1), ("|", True, True)),
    ]


class FormTest(CloseCase):

    def check(self, form, leaves, depth, fields, has_given, text):
        found = Expression(form)
        self.same(found.form, form)
        self.same(found.leaves, leaves)
        self.same(found.depth, depth)
        self.same(found.fields, fields)
        self.same(found.has_given, has_given)
        self.same(str(found), text)
        self.assertEqual(repr(found), f"Expression({leaves} leaves)")
        self.assertEqual(Expression.read(text), found)
        self.assertTrue(found)

    def test_strings(self):
        for name in ("a", "invited", "abcdefgh", "a1234567", "z"):
            self.check(name, 1, 1, (name,), False, name)
        self.check("given", 1, 1, (), True, "given")
        self.check("none", 1, 1, (), False, "none")

    def test_triples(self):
        self.check(LATE, 3, 3, ("inside", "invited"), True, "invited - (inside | given)")
        self.check(("|", "b", "a"), 2, 2, ("a", "b"), False, "b | a")
        self.check(("&", "a", "a"), 2, 2, ("a",), False, "a & a")
        self.check(("^", ("&", "z", "none"), "given"), 3, 3, ("z",), True, "(z & none) ^ given")
        self.check(("-", ("|", "a", "b"), ("^", "c", ("&", "d", "a"))), 5, 4, ("a", "b", "c", "d"), False,
                   "(a | b) - (c ^ (d & a))")
        self.check(("|", "given", "none"), 2, 2, (), True, "given | none")
        self.check(("|", ("&", "a", "b"), ("&", "a", "b")), 4, 3, ("a", "b"), False, "(a & b) | (a & b)")

    def test_any_forms_are_read_from_their_texts(self):
        chance = random.Random(7)
        for _ in range(300):
            form = any_form(chance, ("a", "b2", "cidcidci"), 6)
            found = Expression.read(str(Expression(form)))
            self.same(found.form, form)

    def test_by_name(self):
        self.assertEqual(Expression(form="a"), Expression.read(text="a"))

    def test_no_forms(self):
        for wrong in no_forms():
            self.refused(InvalidForm, {"value": wrong}, Expression, wrong)

    def test_at_the_limits(self):
        found = Expression(balanced(200))
        self.assertEqual((found.leaves, found.depth), (200, 9))
        found = Expression(chain(20))
        self.assertEqual((found.leaves, found.depth), (20, 20))
        found = Expression(nested(20, lambda form: ("^", "b", form), "a"))
        self.assertEqual((found.leaves, found.depth), (20, 20))
        found = Expression(chain(12, balanced(189)))
        self.assertEqual((found.leaves, found.depth, found.fields), (200, 20, ("a", "b")))

    def test_beyond_the_limits(self):
        self.refused(TooManyLeaves, {"limit": 200}, Expression, balanced(201))
        self.refused(TooManyLeaves, {"limit": 200}, Expression, balanced(1024))
        self.refused(TooManyLevels, {"limit": 20}, Expression, chain(21))
        self.refused(TooManyLevels, {"limit": 20}, Expression, chain(30))
        self.refused(TooManyLevels, {"limit": 20}, Expression, nested(21, lambda form: ("^", "b", form), "given"))

    def test_leaves_come_ahead_of_levels(self):
        both = chain(20, balanced(200))
        self.refused(TooManyLeaves, {"limit": 200}, Expression, both)
        self.refused(TooManyLevels, {"limit": 20}, Expression, chain(14, balanced(187)))

    def test_no_form_comes_ahead_of_both(self):
        for wrong in ("A", 5, None, ("|", "a"), ["a"]):
            for form in (balanced(201), chain(25), chain(20, balanced(200))):
                for whole in (("|", form, wrong), ("|", wrong, form), ("|", ("&", form, wrong), form)):
                    self.refused(InvalidForm, {"value": whole}, Expression, whole)
        deep = chain(30, 5)
        self.refused(InvalidForm, {"value": deep}, Expression, deep)

    def test_a_form_that_holds_itself_twice_on_thirty_levels(self):
        # Not by refused, which looks at the whole text of what is passed: here it has 2 ** 29 leaves.
        with self.assertRaises(TooManyLeaves):
            Expression(nested(30, lambda form: ("|", form, form), "a"))
        wrong = nested(30, lambda form: ("|", form, form), 5)
        with self.assertRaises(InvalidForm) as caught:
            Expression(wrong)
        self.assertIs(caught.exception.value, wrong)
        self.assertEqual(Expression(nested(8, lambda form: ("|", form, form), "a")).leaves, 128)
        self.assertEqual(Expression(nested(8, lambda form: ("|", form, form), "a")).depth, 8)


class TextTest(CloseCase):

    WRONG = (
        "", " ", "a ", " a", "a  b", "a b", "a |", "| a", "a | ", "a | b ", " a | b", "a  | b", "a |  b", "a|b",
        "a | b | c", "a + b", "a || b", "(a)", "(a | b)", "((a | b))", "(a | b) | (c)", "((a | b)) | c", "a | (b)",
        "a | (b | c", "a | b | c)", "a | (b | c))", "(a | b", "a | b)", "()", "() | a", "( a | b) | c", "(a | b ) | c",
        "(a | b)| c", "a |(b | c)", "(a | b)(c | d)", "(a | b) (c | d)", "a (b | c)", "(a | b) c", ")(", ")", "(",
        "(a | b c | d", "(a | b | | c", "(a | b ( - c", "a (b | c) d", "a b c", "a b (c | d)", "(a | b) c d",
        "(a (b | c) d) | e", "a | (b c d)", "((a | b) c d) | e", "a\n", "a\n| b", "a |\nb", "A", "a | B", "a | ninechars", "1", "a | 1b", "|", "| | |", "a | |", "a - - b",
        "a <= b", "not a", "a, b", "~a", "a | (b | c | d)", "(a | ) | b", "(| a) | b", ") a | b (", "a | (b | c) )",
        "none none", "given given", "a | (b & (c - d)", "~" * 8000, "(" * 8000, ")" * 8000, "a | " * 2000,
    )

    def test_other_strings(self):
        for text in self.WRONG:
            self.refused(InvalidText, {"value": text}, Expression.read, text)

    def test_other_values(self):
        for value in strange_values(str):
            self.refused(InvalidText, {"value": value}, Expression.read, value)
        for value in plain_values():
            if isinstance(value, str):
                self.refused(InvalidText, {"value": value}, Expression.read, value)

    def test_at_the_limits(self):
        text = str(Expression(balanced(200)))
        self.assertEqual(Expression.read(text).leaves, 200)
        self.assertEqual(Expression.read(chain_text(18)).depth, 20)
        self.assertEqual(Expression.read("b - (" * 18 + "a & b" + ")" * 18).depth, 20)

    def test_beyond_the_limits(self):
        many = f"({str(Expression(balanced(200)))}) | a"
        self.refused(TooManyLeaves, {"limit": 200}, Expression.read, many)
        self.refused(TooManyLevels, {"limit": 20}, Expression.read, chain_text(19))
        self.refused(TooManyLevels, {"limit": 20}, Expression.read, "b - (" * 19 + "a & b" + ")" * 19)
        self.refused(TooManyLevels, {"limit": 20}, Expression.read, chain_text(198))
        self.refused(TooManyLeaves, {"limit": 200}, Expression.read, chain_text(199))

    def test_more_than_a_thousand_brackets(self):
        for brackets in (500, 1100, 1300):
            text = chain_text(brackets)
            self.assertLessEqual(len(text), 8000)
            self.refused(TooManyLeaves, {"limit": 200}, Expression.read, text)
            for wrong in (text[1:], text[:-1], text + ")", text.replace("a", "A"), text.replace("a", "(a)")):
                self.refused(InvalidText, {"value": wrong}, Expression.read, wrong)
        inner = "b - (" * 1300 + "a & b" + ")" * 1300
        self.refused(TooManyLeaves, {"limit": 200}, Expression.read, inner)
        twice = f"({chain_text(600)}) | ({chain_text(600)})"
        self.refused(TooManyLeaves, {"limit": 200}, Expression.read, twice)
        for wrong in ("(" * 1500 + "a" + ")" * 1500, "(" * 1500 + "a | b" + ")" * 1500, "(" * 4000):
            self.refused(InvalidText, {"value": wrong}, Expression.read, wrong)


class SignTest(CloseCase):

    def test_the_four_signs(self):
        one, other = Expression("a"), Expression(LATE)
        for sign, act in SIGNS:
            found = act(one, other)
            self.assertIs(found.__class__, Expression)
            self.same(found.form, (sign, "a", LATE))
            self.assertEqual((found.leaves, found.depth, found.fields), (4, 4, ("a", "inside", "invited")))
            self.assertIs(found.has_given, True)
            self.same(act(other, one).form, (sign, LATE, "a"))
        self.assertEqual((one.form, other.form), ("a", LATE))

    def test_a_second_name_stays(self):
        first = second = Expression("a")
        first |= Expression("b")
        self.assertEqual((str(first), str(second)), ("a | b", "a"))

    def test_at_and_beyond_the_limits(self):
        half, more = Expression(balanced(100)), Expression(balanced(101))
        deep, deeper = Expression(chain(19)), Expression(chain(20))
        full = Expression(chain(12, balanced(189)))
        for _, act in SIGNS:
            self.assertEqual(act(half, half).leaves, 200)
            self.assertEqual((act(deep, deep).depth, act(Expression("a"), deep).depth), (20, 20))
            self.refused(TooManyLeaves, {"limit": 200}, act, half, more)
            self.refused(TooManyLeaves, {"limit": 200}, act, more, half)
            self.refused(TooManyLevels, {"limit": 20}, act, deeper, Expression("a"))
            self.refused(TooManyLevels, {"limit": 20}, act, Expression("none"), deeper)
            self.refused(TooManyLeaves, {"limit": 200}, act, full, Expression("a"))

    def test_wrong_right_operands(self):
        for left in (Expression("a"), Expression(balanced(200)), Expression(chain(20))):
            for _, act in SIGNS:
                for wrong in ["a", ("|", "a", "b"), Members("a")] + strange_values(Expression):
                    self.refused(NotAnExpression, {"value": wrong}, act, left, wrong)


class EqualityTest(CloseCase):

    def test_equal_if_the_forms_are(self):
        self.assertTrue(Expression(LATE) == Expression.read("invited - (inside | given)"))
        self.assertFalse(Expression(LATE) != Expression.read("invited - (inside | given)"))
        for one, other in (("a", "b"), (("|", "a", "b"), ("|", "b", "a")), ("a", ("|", "a", "a")), ("none", "given"),
                           (("|", "a", "b"), ("&", "a", "b"))):
            self.assertIs(Expression(one) == Expression(other), False)
            self.assertIs(Expression(one) != Expression(other), True)

    def test_never_equal_to_another_class(self):
        for value in ["a", Fact(Expression("a"), Expression("a")), Members("a")] + strange_values(Expression):
            self.assertIs(Expression("a") == value, False)
            self.assertIs(value == Expression("a"), False)
            self.assertIs(Expression("a") != value, True)


class WithinTest(CloseCase):

    def test_the_fact_of_both(self):
        one, other = Expression("inside"), Expression("invited")
        found = one.within(other)
        self.assertIs(found.__class__, Fact)
        self.assertEqual((found.left, found.right), (one, other))
        self.assertEqual(one.within(other=one), Fact(one, one))

    def test_wrong_values(self):
        for wrong in strange_values(Expression):
            self.refused(NotAnExpression, {"value": wrong}, Expression("a").within, wrong)
