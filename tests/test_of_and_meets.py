"""Promise 6: who is in an expression, for sets of members and by looking at one member."""

import itertools
import random

from onemember.errors import InvalidNames, InvalidSets, NotMembers, UnknownField
from onemember.expressions import Expression
from onemember.members import Members
from tests.helper import CloseCase, any_form, own_objects, plain_values, strange_values, who

FIELDS = ("a", "b", "c")
PEOPLE = ("p0", "p1", "p2", "p3", "p4", "p5")


def tuples_of(names):
    """All tuples of some of the names, in every order."""
    return [some for many in range(len(names) + 1) for some in itertools.permutations(names, many)]


class OfTest(CloseCase):

    def test_each_sign(self):
        sets = (("a", Members("ann", "bob")), ("b", Members("bob", "cid")))
        for sign, due in (("|", "ann bob cid"), ("&", "bob"), ("-", "ann"), ("^", "ann cid")):
            found = Expression((sign, "a", "b")).of(sets)
            self.assertIs(found.__class__, Members)
            self.assertEqual((sign, str(found)), (sign, due))

    def test_strings(self):
        sets = (("a", Members("ann", "bob")),)
        self.assertEqual(Expression("a").of(sets), Members("ann", "bob"))
        self.assertEqual(Expression("none").of(sets, given=Members("ann")), Members())
        self.assertEqual(Expression("given").of((), given=Members("cid")), Members("cid"))
        self.assertEqual(Expression("given").of(sets), Members())
        self.assertEqual(Expression("given").of(sets=(), given=None), Members())

    def test_any_expressions_and_sets(self):
        chance = random.Random(8)
        for _ in range(400):
            form = any_form(chance, FIELDS, 5)
            expression = Expression(form)
            plain = {name: [one for one in PEOPLE if chance.random() < 0.5] for name in FIELDS}
            given = [one for one in PEOPLE if chance.random() < 0.5]
            sets = tuple((name, Members(*plain[name])) for name in chance.sample(FIELDS, 3))
            found = expression.of(sets, given=Members(*given))
            self.assertEqual(set(found), who(form, plain, given))
            self.assertEqual(expression.of(sets), Members(*who(form, plain, [])))
            for one in PEOPLE:
                inside = tuple(name for name in FIELDS if one in plain[name])
                self.assertIs(expression.meets(inside, given=one in given), one in found)

    def test_nothing_changes(self):
        first, second, given = Members("ann"), Members("bob"), Members("cid")
        sets = (("a", first), ("b", second))
        expression = Expression.read("(a | b) ^ given")
        expression.of(sets, given=given)
        self.assertEqual((sets[0][1], str(first), str(second), str(given)), (first, "ann", "bob", "cid"))
        self.assertEqual(str(expression), "(a | b) ^ given")

    def test_sets_that_are_no_tuples(self):
        for wrong in strange_values(tuple):
            self.refused(InvalidSets, {"index": None}, Expression("a").of, wrong)
        self.refused(InvalidSets, {"index": None}, Expression("none").of, [("a", Members())])
        self.refused(InvalidSets, {"index": None}, Expression("none").of, {"a": Members()})

    def test_elements_that_are_no_pairs(self):
        good = ("b", Members("bob"))
        wrong = [
            ("a",), ("a", Members(), Members()), ["a", Members()], ("a", "ann"), ("a", ("ann",)), ("a", None),
            ("given", Members()), ("none", Members()), ("A", Members()), ("ninechars", Members()), ("", Members()),
            (Members(), "a"), (5, Members()), (None, Members()), (["a"], Members()), (("a",), Members()), "aM", (),
            ("b", Members("bob")),
        ]
        for value in wrong + strange_values():
            for expression in (Expression("b"), Expression("zed")):
                self.refused(InvalidSets, {"index": 1}, expression.of, (good, value))
                self.refused(InvalidSets, {"index": 2}, expression.of, (good, ("a", Members()), value, 5), given=5)
        for value in plain_values() + own_objects():
            self.refused(InvalidSets, {"index": 0}, Expression("b").of, ((value, 5), good))
            if not isinstance(value, Members):
                self.refused(InvalidSets, {"index": 0}, Expression("b").of, (("b", value), good))

    def test_a_field_twice(self):
        sets = (("a", Members("ann")), ("b", Members()), ("a", Members("ann")), 5)
        self.refused(InvalidSets, {"index": 2}, Expression("a").of, sets)

    def test_given_is_no_members(self):
        for wrong in strange_values(Members):
            if wrong is not None:
                self.refused(NotMembers, {"value": wrong}, Expression("a").of, (("a", Members()),), given=wrong)
                self.refused(NotMembers, {"value": wrong}, Expression("none").of, (), given=wrong)
                self.refused(NotMembers, {"value": wrong}, Expression("a").of, (), given=wrong)

    def test_fields_that_are_not_in_the_sets(self):
        late = Expression.read("(zed - given) | (bed & abe)")
        self.refused(UnknownField, {"value": late.fields[0]}, late.of, ())
        self.assertEqual(late.fields, ("abe", "bed", "zed"))
        self.missing("bed", late, (("abe", Members()),))
        self.missing("zed", late, (("abe", Members()), ("bed", Members())))
        self.missing("abe", late, (("zed", Members()), ("other", Members())))
        self.missing("b", Expression.read("a & b"), (("a", Members()),))

    def missing(self, field, expression, sets):
        """The error tells this field."""
        with self.assertRaises(UnknownField) as caught:
            expression.of(sets, given=Members("ann"))
        self.same(caught.exception.value, field)

    def test_more_sets_than_fields(self):
        sets = tuple((name, Members(name)) for name in ("a", "b", "c", "d", "e", "f", "g", "h", "i", "j"))
        self.assertEqual(str(Expression.read("j | b").of(sets)), "b j")


class MeetsTest(CloseCase):

    def test_each_sign(self):
        due = {"|": (False, True, True, True), "&": (False, False, False, True),
               "-": (False, True, False, False), "^": (False, True, True, False)}
        for sign, answers in due.items():
            expression = Expression((sign, "a", "b"))
            found = tuple(expression.meets(inside) for inside in ((), ("a",), ("b",), ("a", "b")))
            self.assertEqual((sign, found), (sign, answers))
            for answer in found:
                self.assertIsInstance(answer, bool)

    def test_given_and_none(self):
        given, none = Expression("given"), Expression("none")
        self.assertEqual([given.meets(()), given.meets((), given=True), given.meets(inside=(), given=False)],
                         [False, True, False])
        self.assertEqual([none.meets(()), none.meets((), given=True)], [False, False])

    def test_the_names_given_and_none_are_no_fields(self):
        for inside in (("given",), ("none",), ("none", "given")):
            self.assertIs(Expression("given").meets(inside), False)
            self.assertIs(Expression("given").meets(inside, given=True), True)
            self.assertIs(Expression("none").meets(inside, given=True), False)

    def test_other_names_and_the_order_have_no_effect(self):
        chance = random.Random(9)
        for _ in range(60):
            expression = Expression(any_form(chance, FIELDS, 4))
            for some in tuples_of(FIELDS):
                for given in (False, True):
                    due = expression.meets(tuple(sorted(some)), given=given)
                    self.assertIs(expression.meets(some, given=given), due)
                    self.assertIs(expression.meets(("zed", *some, "x1", "given", "none"), given=given), due)

    def test_as_for_one_member(self):
        chance = random.Random(10)
        for _ in range(150):
            expression = Expression(any_form(chance, FIELDS, 5))
            for some in tuples_of(FIELDS):
                sets = tuple((name, Members("x") if name in some else Members()) for name in FIELDS)
                self.assertIs(expression.meets(some), "x" in expression.of(sets))
                self.assertIs(expression.meets(some, given=True), "x" in expression.of(sets, given=Members("x")))

    def test_wrong_names(self):
        for wrong in strange_values(tuple):
            self.refused(InvalidNames, {"index": None}, Expression("a").meets, wrong)
        self.refused(InvalidNames, {"index": None}, Expression("a").meets, "a")
        self.refused(InvalidNames, {"index": None}, Expression("a").meets, ["a"])
        for wrong in ["", "A", "1a", "a b", "ninechars"] + strange_values():
            self.refused(InvalidNames, {"index": 0}, Expression("a").meets, (wrong, "a"))
            self.refused(InvalidNames, {"index": 2}, Expression("a").meets, ("a", "b", wrong, 5), given=True)

    def test_a_name_twice(self):
        self.refused(InvalidNames, {"index": 1}, Expression("a").meets, ("a", "a"))
        self.refused(InvalidNames, {"index": 3}, Expression("a").meets, ("a", "b", "c", "b", "a"))
