"""Promises about questions that are refused (points 4 and 11 to 16): the first error that is due, with its attribute."""

from onemember import deciding
from onemember.deciding import always, apart, been, bounded, breaking, comes, growing, meeting, nodes, stays, way_to
from onemember.designs import Design
from onemember.errors import InvalidFields, InvalidTerms, NotADesign, NotAFact, NotAnExpression, UnknownField, UnknownMode
from onemember.expressions import Expression, Fact
from onemember.samples import sample_design
from tests.helper import CloseCase, strange_values

SAMPLE = sample_design()
COME = Expression("inside")
FACT = Fact.read("inside <= invited")
TERMS = ((COME, 1), (Expression("invited"), -1))
WRONG_MODES = ["", "Day", "dusk", "inside", "given", ("day",), "da"] + [value for value in strange_values() if value is not None]
# Expressions with names that are no fields of the sample, and the first one of these, ascending.
OTHERS = (("guests", "guests"), ("given", "given"), ("inside - given", "given"), ("zed | (given & abe)", "abe"),
          ("zed - given", "given"), ("invited | day", "day"), ("zed ^ yak", "yak"))
WITH_MODE = (
    (lambda some, design, **named: always(Fact(some, some), design, **named)),
    (lambda some, design, **named: breaking(Fact(some, COME), design, **named)),
    (lambda some, design, **named: breaking(Fact(COME, some), design, **named)),
    (lambda some, design, **named: apart(some, COME, design, **named)),
    (lambda some, design, **named: meeting(COME, some, design, **named)),
    (lambda some, design, **named: bounded(((some, 1),), design, **named)),
    (lambda some, design, **named: growing(((COME, 1), (COME, 1), (some, 0)), design, **named)),
)
WITHOUT_MODE = (
    (lambda some, design: been(some, COME, design)), (lambda some, design: been(COME, some, design)),
    stays, (lambda some, design: comes(some, COME, design)), (lambda some, design: comes(COME, some, design)),
)


class RefusedTest(CloseCase):

    def test_no_fact(self):
        for wrong in strange_values(Fact) + ["inside <= invited", FACT.form, (COME, COME)]:
            for act in (always, breaking):
                self.refused(NotAFact, {"value": wrong}, act, wrong, SAMPLE)
                self.refused(NotAFact, {"value": wrong}, act, wrong, 5, mode=5)

    def test_no_expression(self):
        for wrong in strange_values(Expression) + ["inside", COME.form]:
            for act in (apart, meeting):
                self.refused(NotAnExpression, {"value": wrong}, act, wrong, COME, SAMPLE)
                self.refused(NotAnExpression, {"value": wrong}, act, wrong, 5, 5, mode=5)
                self.refused(NotAnExpression, {"value": wrong}, act, COME, wrong, SAMPLE)
                self.refused(NotAnExpression, {"value": wrong}, act, Expression("zed"), wrong, 5, mode=5)
            for act in (been, comes):
                self.refused(NotAnExpression, {"value": wrong}, act, wrong, COME, SAMPLE)
                self.refused(NotAnExpression, {"value": wrong}, act, wrong, 5, 5)
                self.refused(NotAnExpression, {"value": wrong}, act, COME, wrong, SAMPLE)
                self.refused(NotAnExpression, {"value": wrong}, act, Expression("zed"), wrong, 5)
            self.refused(NotAnExpression, {"value": wrong}, stays, wrong, SAMPLE)
            self.refused(NotAnExpression, {"value": wrong}, stays, wrong, 5)

    def test_no_terms(self):
        for act in (bounded, growing):
            for wrong in strange_values(tuple) + [(), TERMS * 3, TERMS * 2 + TERMS[:1], (5,) * 5, list(TERMS)]:
                self.refused(InvalidTerms, {"index": None}, act, wrong, SAMPLE)
                self.refused(InvalidTerms, {"index": None}, act, wrong, 5, mode=5)
            self.assertIsNot(act(TERMS * 2, SAMPLE, mode="day"), False)
            for wrong in [("inside", 1), (COME,), (COME, 1, 1), [COME, 1], (1, COME), (COME, True), (COME, False), (COME, "1"), ()]:
                self.refused(InvalidTerms, {"index": 0}, act, (wrong,), SAMPLE)
                self.refused(InvalidTerms, {"index": 2}, act, TERMS + (wrong, wrong), 5, mode=5)
            for value in strange_values():
                self.refused(InvalidTerms, {"index": 1}, act, (TERMS[0], value), SAMPLE)
                if value.__class__ is not int:
                    self.refused(InvalidTerms, {"index": 1}, act, (TERMS[0], (COME, value)), SAMPLE)
                if value.__class__ is not Expression:
                    self.refused(InvalidTerms, {"index": 1}, act, (TERMS[0], (value, 1)), SAMPLE)

    def test_no_design(self):
        for wrong in strange_values(Design) + [str(SAMPLE)]:
            for act in WITH_MODE:
                self.refused(NotADesign, {"value": wrong}, act, COME, wrong)
                self.refused(NotADesign, {"value": wrong}, act, Expression("zed"), wrong, mode=5)
            for act in WITHOUT_MODE:
                self.refused(NotADesign, {"value": wrong}, act, COME, wrong)
                self.refused(NotADesign, {"value": wrong}, act, Expression.read("given | zed"), wrong)
            self.refused(NotADesign, {"value": wrong}, nodes, wrong)
            self.refused(NotADesign, {"value": wrong}, way_to, wrong, "day", ())
            self.refused(NotADesign, {"value": wrong}, way_to, wrong, 5, 5)

    def test_unknown_fields(self):
        for text, due in OTHERS:
            for act in WITH_MODE:
                self.unknown(due, act, Expression.read(text), SAMPLE)
                self.unknown(due, act, Expression.read(text), SAMPLE, mode=5)
            for act in WITHOUT_MODE:
                self.unknown(due, act, Expression.read(text), SAMPLE)

    def test_the_first_one_of_all_together(self):
        zed, abe, given, left = Expression("zed"), Expression("abe"), Expression("given"), Expression("leave")
        for one, other, due in ((zed, abe, "abe"), (abe, zed, "abe"), (zed, given, "given"), (given, zed, "given"), (left, given, "given"), (given, abe, "abe")):
            for act in (always, breaking):
                self.unknown(due, act, Fact(one, other), SAMPLE)
            for act in (apart, meeting, been, comes):
                self.unknown(due, act, one, other, SAMPLE)
            for act in (bounded, growing):
                self.unknown(due, act, ((COME, 1), (one, 1), (COME, 0), (other, 0)), SAMPLE)

    def unknown(self, due, act, *args, **named):
        with self.assertRaises(UnknownField) as caught:
            act(*args, **named)
        self.same(caught.exception.value, due)

    def test_unknown_modes(self):
        for wrong in WRONG_MODES:
            for act in WITH_MODE:
                self.refused(UnknownMode, {"value": wrong}, act, COME, SAMPLE, mode=wrong)
            self.refused(UnknownMode, {"value": wrong}, way_to, SAMPLE, wrong, ())
            self.refused(UnknownMode, {"value": wrong}, way_to, SAMPLE, wrong, 5)
        self.refused(UnknownMode, {"value": None}, way_to, SAMPLE, None, ("inside",))

    def test_wrong_insides(self):
        for wrong in strange_values(tuple) + [["inside"], "inside"]:
            self.refused(InvalidFields, {"index": None}, way_to, SAMPLE, "day", wrong)
        for wrong in ["", "guests", "day", "given", "none", "Inside"] + strange_values():
            self.refused(InvalidFields, {"index": 0}, way_to, SAMPLE, "night", (wrong, 5))
            self.refused(InvalidFields, {"index": 1}, way_to, SAMPLE, "day", ("invited", wrong))
            self.refused(InvalidFields, {"index": 2}, way_to, SAMPLE, "day", ("invited", "inside", wrong, 5))
        self.refused(InvalidFields, {"index": 1}, way_to, SAMPLE, "day", ("inside", "invited"))
        self.refused(InvalidFields, {"index": 1}, way_to, SAMPLE, "day", ("inside", "inside"))
        self.refused(InvalidFields, {"index": 2}, way_to, SAMPLE, "day", ("invited", "inside", "invited"))

    def test_modes_are_named_alone(self):
        for act in (always, breaking):
            with self.assertRaises(TypeError):
                act(FACT, SAMPLE, "day")
        self.assertEqual(deciding.always(FACT, SAMPLE, mode="day"), True)
