"""Promises about forms that the program builds (points 7 and 9): who is in them, and that they are within the limits."""

import itertools
import random
import unittest

from onemember.designs import Design
from onemember.expressions import Expression
from onemember.forming import form_telling
from onemember.limits import MOST_DEPTH, MOST_LEAVES
from tests.helper import who

FIELDS = ("a", "b", "c", "d")


def is_in(form, fields, place):
    """Whether x is in a form at a place: the last bit tells whether x is given, the next ones the fields."""
    sets = {field: {"x"} if place >> (at + 1) & 1 else set() for at, field in enumerate(fields)}
    return "x" in who(form, sets, {"x"} if place & 1 else set())


class FormingTest(unittest.TestCase):

    def check(self, fields, inside, outside):
        form = form_telling(fields, inside, outside)
        expression = Expression(form)
        self.assertLessEqual(expression.leaves, MOST_LEAVES)
        self.assertLessEqual(expression.depth, MOST_DEPTH)
        self.assertLessEqual(set(expression.fields), set(fields))
        self.assertTrue(all(is_in(form, fields, place) for place in inside))
        self.assertFalse(any(is_in(form, fields, place) for place in outside))
        self.assertFalse(is_in(form, fields, 0))
        self.assertEqual(Design(fields, ("m",), (("p", "many", (("m", ((form, "none"),), ((fields[0], form),), "m"),)),), ()).fields, fields)
        return form

    def test_all_of_two_fields(self):
        for told in itertools.product((True, False, None), repeat=7):
            inside = [place + 1 for place, there in enumerate(told) if there]
            outside = [place + 1 for place, there in enumerate(told) if there is False]
            self.check(("a", "b"), inside, outside)

    def test_four_fields(self):
        chance = random.Random(190)
        for _ in range(300):
            share = chance.random()
            told = [chance.choice((True, False)) if chance.random() < share else None for _ in range(31)]
            self.check(FIELDS, [at + 1 for at, there in enumerate(told) if there], [at + 1 for at, there in enumerate(told) if there is False])

    def test_the_greatest_ones(self):
        odd = [place for place in range(32) if bin(place).count("1") % 2]
        self.check(FIELDS, odd, [place for place in range(32) if place not in odd])
        even = [place for place in range(1, 32) if place not in odd]
        self.check(FIELDS, even, odd)
        self.check(FIELDS, list(range(1, 32)), [])
        for place in range(1, 32):
            self.check(FIELDS, [place], [other for other in range(32) if other != place])
            self.check(FIELDS, [other for other in range(1, 32) if other != place], [place])

    def test_what_is_not_needed_is_left_out(self):
        self.assertEqual(self.check(("a", "b"), [2, 6], [4]), "a")
        self.assertEqual(self.check(("a", "b"), [1, 5], [3]), ("-", "given", "a"))
        self.assertEqual(self.check(("a", "b"), [], [2, 4, 6]), "none")
        self.assertEqual(self.check(("a", "b"), [2, 4, 6], []), ("|", "a", "b"))
