"""Promises 5 and 7: facts, their texts, and whether they are kept."""

import random

from onemember.errors import InvalidSets, InvalidText, NotAnExpression, NotMembers, TooManyLeaves, TooManyLevels
from onemember.errors import UnknownField
from onemember.expressions import Expression, Fact
from onemember.members import Members
from tests.helper import CloseCase, any_form, balanced, chain, chain_text, strange_values, who

FIELDS = ("a", "b", "c")
PEOPLE = ("p0", "p1", "p2")


def fact_of(left, right):
    """The fact of two texts."""
    return Fact(Expression.read(left), Expression.read(right))


class MakingTest(CloseCase):

    def test_properties(self):
        left, right = Expression.read("zed - given"), Expression.read("(bed | abe) & zed")
        fact = Fact(left, right)
        self.assertEqual((fact.left, fact.right), (left, right))
        self.same(fact.form, (("-", "zed", "given"), ("&", ("|", "bed", "abe"), "zed")))
        self.same(fact.fields, ("abe", "bed", "zed"))
        self.same(str(fact), "zed - given <= (bed | abe) & zed")
        self.assertEqual(repr(fact), "Fact(zed - given <= (bed | abe) & zed)")
        self.assertTrue(fact)
        self.assertEqual(Fact(right=right, left=left), fact)

    def test_fields_of_one_side_alone(self):
        self.assertEqual(fact_of("b", "none").fields, ("b",))
        self.assertEqual(fact_of("none", "b | a").fields, ("a", "b"))
        self.assertEqual(fact_of("given", "none").fields, ())

    def test_has_given(self):
        for left, right, due in (("a", "b", False), ("given", "b", True), ("a", "b | given", True),
                                 ("given", "given", True), ("none", "none", False)):
            self.assertIs(fact_of(left, right).has_given, due)

    def test_wrong_sides(self):
        for wrong in ["a"] + strange_values(Expression):
            self.refused(NotAnExpression, {"value": wrong}, Fact, wrong, Expression("a"))
            self.refused(NotAnExpression, {"value": wrong}, Fact, Expression("a"), wrong)
            self.refused(NotAnExpression, {"value": wrong}, Fact, wrong, "a")

    def test_equal_if_both_sides_are(self):
        facts = [fact_of(left, right) for left in ("a", "b", "a | b") for right in ("a", "b", "b | a")]
        for at, one in enumerate(facts):
            for place, other in enumerate(facts):
                self.assertIs(one == other, at == place)
                self.assertIs(one != other, at != place)
        self.assertEqual(Fact.read("a | b <= a"), fact_of("a | b", "a"))

    def test_never_equal_to_another_class(self):
        fact = fact_of("a", "b")
        for value in [("a", "b"), "a <= b", Expression("a")] + strange_values(Fact):
            self.assertIs(fact == value, False)
            self.assertIs(value == fact, False)
            self.assertIs(fact != value, True)


class ReadingTest(CloseCase):

    def test_texts_are_read(self):
        chance = random.Random(11)
        for _ in range(200):
            fact = Fact(Expression(any_form(chance, FIELDS, 4)), Expression(any_form(chance, FIELDS, 4)))
            self.assertEqual(Fact.read(text=str(fact)), fact)

    def test_other_strings(self):
        wrong = (
            "", "a", "a <=", "<= b", " <= ", "a <= ", " <= b", "a<=b", "a <=b", "a<= b", "a  <= b", "a <=  b",
            "a <= b ", " a <= b", "a <= b <= c", "a < b", "a >= b", "a = b", "(a | b) <= c", "a <= (b | c)",
            "(a <= b)", "a | (b <= c)", "(a | b <= c)", "a | <= b", "A <= b", "a <= 1", "a <= b\n", "a\n<= b", "a | b",
            "a <= <= b", "<=", "~" * 8000, "a <= " + "(" * 4000,
        )
        for text in wrong:
            self.refused(InvalidText, {"value": text}, Fact.read, text)

    def test_other_values(self):
        for value in strange_values(str):
            self.refused(InvalidText, {"value": value}, Fact.read, value)

    def test_at_the_limits(self):
        many, deep = str(Expression(balanced(200))), str(Expression(chain(20)))
        self.assertEqual(Fact.read(f"{many} <= {deep}").left.leaves, 200)
        self.assertEqual(Fact.read(f"{many} <= {many}").right.leaves, 200)
        self.assertEqual(Fact.read(f"{deep} <= {deep}").right.depth, 20)

    def test_beyond_the_limits(self):
        many = f"({str(Expression(balanced(200)))}) | a"
        deep, huge = chain_text(19), chain_text(600)
        for text in (f"{many} <= a", f"a <= {many}", f"{deep} <= {many}", f"{many} <= {deep}", f"{huge} <= {deep}",
                     f"{deep} <= {huge}", f"{chain_text(198)} <= {huge}", f"{chain_text(1250)} <= a"):
            self.refused(TooManyLeaves, {"limit": 200}, Fact.read, text)
        for text in (f"{deep} <= a", f"a <= {deep}", f"{deep} <= {deep}", f"{chain_text(198)} <= none"):
            self.refused(TooManyLevels, {"limit": 20}, Fact.read, text)
        for text in (f"{many} <= A", f"A <= {many}", f"{deep} <= a | ", f"{huge} <= {huge})", f"({huge} <= {deep}"):
            self.refused(InvalidText, {"value": text}, Fact.read, text)


class KeptTest(CloseCase):

    def test_kept_or_not(self):
        sets = (("inside", Members("ann")), ("invited", Members("ann", "bob")))
        self.assertIs(Fact.read("inside <= invited").is_kept(sets), True)
        self.assertIs(Fact.read("invited <= inside").is_kept(sets), False)
        self.assertIs(Fact.read("invited <= invited").is_kept(sets), True)
        self.assertIs(Fact.read("invited <= none").is_kept(sets), False)
        self.assertIs(Fact.read("none <= inside").is_kept(sets=sets), True)

    def test_given(self):
        sets = (("invited", Members("ann", "bob")),)
        fact = Fact.read("given <= invited")
        self.assertIs(fact.is_kept(sets), True)
        self.assertIs(fact.is_kept(sets, given=Members("bob")), True)
        self.assertIs(fact.is_kept(sets, given=Members("bob", "cid")), False)
        self.assertIs(Fact.read("invited <= given").is_kept(sets, given=None), False)
        self.assertIs(Fact.read("given <= none").is_kept((), given=Members()), True)

    def test_any_facts_and_sets(self):
        chance = random.Random(12)
        answers = []
        for _ in range(400):
            left, right = any_form(chance, FIELDS, 3), any_form(chance, FIELDS, 3)
            plain = {name: [one for one in PEOPLE if chance.random() < 0.5] for name in FIELDS}
            given = [one for one in PEOPLE if chance.random() < 0.5]
            sets = tuple((name, Members(*plain[name])) for name in FIELDS)
            found = Fact(Expression(left), Expression(right)).is_kept(sets, given=Members(*given))
            self.assertIs(found, who(left, plain, given) <= who(right, plain, given))
            answers.append(found)
        self.assertIn(True, answers)
        self.assertIn(False, answers)

    def test_wrong_sets(self):
        fact = Fact.read("a <= b")
        for wrong in strange_values(tuple):
            self.refused(InvalidSets, {"index": None}, fact.is_kept, wrong)
        self.refused(InvalidSets, {"index": 1}, fact.is_kept, (("a", Members()), ("a", Members())))
        for wrong in strange_values() + [("none", Members()), ("given", Members()), ("a", "ann"), ("a",)]:
            self.refused(InvalidSets, {"index": 1}, fact.is_kept, (("b", Members()), wrong, wrong), given=5)

    def test_wrong_given(self):
        for wrong in strange_values(Members):
            if wrong is not None:
                self.refused(NotMembers, {"value": wrong}, Fact.read("a <= b").is_kept, (), given=wrong)

    def test_fields_that_are_not_in_the_sets(self):
        fact = Fact.read("zed <= bed | abe")
        for sets, due in (((), "abe"), ((("abe", Members()),), "bed"), ((("abe", Members()), ("bed", Members())), "zed"),
                          ((("zed", Members()), ("abe", Members())), "bed")):
            with self.assertRaises(UnknownField) as caught:
                fact.is_kept(sets, given=Members())
            self.same(caught.exception.value, due)
