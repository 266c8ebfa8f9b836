"""Promises about questions (points 11 to 16): nodes, for ever, apart, bounded, the past, each against a plain search."""

import random

from onemember.deciding import always, apart, been, bounded, breaking, comes, growing, meeting, nodes, stays, way_to
from onemember.designs import Design
from onemember.expressions import Expression, Fact
from onemember.histories import histories, outcomes, play
from onemember.samples import sample_design
from tests.helper import CloseCase
from tests.plain import Plain, all_ways, deeds, form_without_given, great_design, lively_designs, plain_play, plain_ways

SAMPLE = sample_design()
ONE, TWO = ("x",), ("x", "y")
# A design whose modes n and o are never reached, one without calls and views, and one of a single call.
STILL = Design(("a", "b"), ("m", "n", "o"), (("p", "one", (("m", (), (("a", "given"),), "m"), ("n", (), (("b", "given"),), "n"))),), ())
BARE = Design(("a", "b"), ("m", "n"), (), ())


def shapes(seed, many):
    """Designs of several shapes."""
    chance = random.Random(seed)
    found = [SAMPLE, STILL, BARE] + lively_designs(chance, many)
    return chance, found + lively_designs(chance, many // 4, fields=4, least=6)


def expression(chance, design):
    """An expression of the design by chance."""
    return Expression(form_without_given(chance, design.fields))


def first(ways, shows):
    """The first history of a plain search behind which it shows, or None."""
    return next((way for way, keeper in ways if shows(keeper)), None)


def sizes(terms, keeper):
    return sum(number * len(keeper.who(one.form)) for one, number in terms)


class NodesTest(CloseCase):

    def test_the_sample(self):
        self.same(nodes(SAMPLE), (
            ("day", ()), ("day", ("invited",)), ("day", ("invited", "inside")), ("night", ()), ("night", ("inside",))))
        self.same(way_to(SAMPLE, "day", ()), ())
        self.same(way_to(SAMPLE, "night", ("inside",)), (("invite", ("x",)), ("enter", "x"), ("close", None)))
        self.assertIs(way_to(SAMPLE, "night", ("invited", "inside")), None)
        self.assertIs(way_to(inside=("inside",), mode="day", design=SAMPLE), None)
        self.assertEqual(nodes(design=BARE), (("m", ()),))

    def test_the_order(self):
        add = ("add", "one", (("n", (), (("b", "given"),), "n"),))
        both = ("both", "many", (("n", (), (("b", ("|", "b", "given")), ("a", ("|", "a", "given"))), "m"), ("m", (), (("b", "none"),), "n")))
        design = Design(("b", "a"), ("n", "m"), (add, both), ())
        self.assertEqual(nodes(design), (
            ("n", ()), ("n", ("a",)), ("n", ("b",)), ("n", ("b", "a")),
            ("m", ()), ("m", ("a",)), ("m", ("b",)), ("m", ("b", "a"))))

    def test_modes_that_are_never_reached(self):
        self.assertEqual(nodes(STILL), (("m", ()), ("m", ("a",))))
        for mode in ("n", "o"):
            for inside in ((), ("a",), ("b",), ("a", "b")):
                self.assertIs(way_to(STILL, mode, inside), None)

    def test_as_a_plain_search(self):
        _, designs = shapes(70, 80)
        for design in designs:
            ways = plain_ways(design, ONE)
            found = {(keeper.mode, keeper.inside("x")): way for way, keeper in ways}
            self.assertEqual(nodes(design), tuple(sorted(found, key=lambda node: (design.modes.index(node[0]), node[1]))))
            for mode in design.modes:
                for place in range(2 ** len(design.fields)):
                    inside = tuple(field for at, field in enumerate(design.fields) if place >> at & 1)
                    self.assertEqual(way_to(design, mode, inside), found.get((mode, inside)))

    def test_ways_are_the_first_ones_among_all(self):
        _, designs = shapes(71, 20)
        for design in designs:
            seen = {}
            for way, keeper in all_ways(design, ONE, 4):
                seen.setdefault((keeper.mode, keeper.inside("x")), way)
            for (mode, inside), way in seen.items():
                self.assertEqual(way_to(design, mode, inside), way)

    def test_each_node_is_shown_by_a_keeper(self):
        chance, designs = shapes(72, 30)
        for design in designs + [great_design(chance)]:
            for mode, inside in nodes(design):
                keeper = play(design, way_to(design, mode, inside))
                self.assertEqual(keeper.mode, mode)
                self.assertEqual(tuple(field for field in design.fields if "x" in keeper.members(field)), inside)
                self.assertEqual({name for field in design.fields for name in keeper.members(field)} - {"x"}, set())

    def test_each_member_is_at_a_node(self):
        _, designs = shapes(73, 30)
        names = ("a", "b", "c")
        for design in designs:
            known = nodes(design)
            for _, keeper in all_ways(design, names[:2], 3) + all_ways(design, names, 2):
                for name in names + ("nowhere",):
                    self.assertIn((keeper.mode, keeper.inside(name)), known)


class ForEverTest(CloseCase):

    def test_the_sample(self):
        fact = Fact.read("inside <= invited")
        self.same(always(fact, SAMPLE), False)
        self.same(always(fact, SAMPLE, mode="day"), True)
        self.same(always(fact, SAMPLE, mode="night"), False)
        way = (("invite", ("x",)), ("enter", "x"), ("close", None))
        self.same(breaking(fact, SAMPLE), way)
        self.same(breaking(mode="night", design=SAMPLE, fact=fact), way)
        self.assertIs(breaking(fact, SAMPLE, mode="day"), None)
        self.assertIs(breaking(fact, SAMPLE, mode=None) == way and always(mode=None, design=SAMPLE, fact=fact), False)

    def test_modes_that_are_never_reached(self):
        fact = Fact.read("a <= none")
        self.assertEqual([always(fact, STILL), always(fact, STILL, mode="m"), always(fact, STILL, mode="n")], [False, False, True])
        self.assertEqual((breaking(fact, STILL), breaking(fact, STILL, mode="o")), ((("p", "x"),), None))
        self.assertIs(always(Fact.read("a | b <= none"), BARE), True)
        self.assertIs(always(Fact.read("none <= none"), BARE, mode="n"), True)

    def test_as_a_plain_search(self):
        chance, designs = shapes(74, 60)
        broken = 0
        for design in designs:
            ways, many = plain_ways(design, ONE), plain_ways(design, TWO)
            for _ in range(6):
                fact = Fact(expression(chance, design), expression(chance, design))
                for mode in (None,) + design.modes:
                    def shows(keeper):
                        return mode in (None, keeper.mode) and bool(keeper.who(fact.left.form) - keeper.who(fact.right.form))

                    due = first(ways, shows)
                    self.assertEqual(breaking(fact, design, mode=mode), due)
                    self.same(always(fact, design, mode=mode), due is None)
                    self.assertIs(any(shows(keeper) for _, keeper in many), due is not None)
                    broken += due is not None
        self.assertGreater(broken, 100)

    def test_in_keepers_with_many_members(self):
        chance, designs = shapes(75, 12)
        for design in designs:
            facts = [Fact(expression(chance, design), expression(chance, design)) for _ in range(6)]
            answers = [(always(fact, design), {mode: always(fact, design, mode=mode) for mode in design.modes}) for fact in facts]
            for way in list(histories(design, ("a", "b", "c"), most=2)):
                keeper = play(design, way)
                for fact, (ever, modes) in zip(facts, answers):
                    if ever or modes[keeper.mode]:
                        self.assertTrue(fact.is_kept(keeper.state[1]))

    def test_the_history_that_is_told_breaks_it(self):
        chance, designs = shapes(76, 30)
        for design in designs:
            for _ in range(4):
                fact = Fact(expression(chance, design), expression(chance, design))
                way = breaking(fact, design)
                if way is not None:
                    self.assertTrue(all(outcomes(design, way)))
                    self.assertFalse(fact.is_kept(play(design, way).state[1]))


class ApartTest(CloseCase):

    def test_the_sample(self):
        came, late = Expression("inside"), Expression.read("invited - inside")
        self.same(apart(came, late, SAMPLE), False)
        self.same(apart(came, late, SAMPLE, mode="night"), True)
        self.same(meeting(came, late, SAMPLE), (("invite", ("x", "y")), ("enter", "x")))
        self.same(meeting(late, came, SAMPLE), (("invite", ("x", "y")), ("enter", "y")))
        self.assertIs(meeting(mode="night", design=SAMPLE, other=late, one=came), None)
        self.assertIs(apart(mode="day", design=SAMPLE, other=came, one=late), False)

    def test_two_members_at_one_place(self):
        only = Design(("a",), ("m",), (("p", "one", (("m", (), (("a", "given"),), "m"),)),), ())
        self.assertEqual(meeting(Expression("a"), Expression("a"), only), (("p", "x"), ("p", "y")))
        whole = Design(("a",), ("m", "n"), (("p", "one", (("m", (), (("a", "given"),), "m"),)), ("q", "many", (("m", (), (("a", "given"),), "n"),))), ())
        self.assertEqual(meeting(Expression("a"), Expression("a"), whole, mode="n"), (("q", ("x", "y")),))
        self.assertIs(apart(Expression("a"), Expression("none"), whole), True)
        self.assertIs(apart(Expression("a"), Expression("a"), BARE), True)

    def test_as_a_plain_search(self):
        chance, designs = shapes(77, 50)
        met = 0
        for design in designs:
            ways = plain_ways(design, TWO)
            for _ in range(4):
                one, other = expression(chance, design), expression(chance, design)
                for mode in (None,) + design.modes:
                    def shows(keeper):
                        return mode in (None, keeper.mode) and "x" in keeper.who(one.form) and "y" in keeper.who(other.form)

                    due = first(ways, shows)
                    self.assertEqual(meeting(one, other, design, mode=mode), due)
                    self.same(apart(one, other, design, mode=mode), due is None)
                    self.same(apart(other, one, design, mode=mode), due is None)
                    self.assertEqual(meeting(other, one, design, mode=mode) is None, due is None)
                    met += due is not None
        self.assertGreater(met, 60)

    def test_in_keepers_with_many_members(self):
        chance, designs = shapes(78, 12)
        for design in designs:
            pairs = [(expression(chance, design), expression(chance, design)) for _ in range(6)]
            answers = [{mode: apart(one, other, design, mode=mode) for mode in design.modes} for one, other in pairs]
            for _, keeper in all_ways(design, ("a", "b", "c"), 2):
                for (one, other), modes in zip(pairs, answers):
                    if modes[keeper.mode]:
                        here, there = keeper.who(one.form), keeper.who(other.form)
                        self.assertFalse([name for name in here for second in there if name != second])


class BoundedTest(CloseCase):

    def test_the_sample(self):
        terms = ((Expression("inside"), 1), (Expression("invited"), -1))
        self.same(bounded(terms, SAMPLE), False)
        self.same(bounded(terms, SAMPLE, mode="day"), True)
        self.same(growing(terms, SAMPLE), (("invite", ("x",)), ("enter", "x"), ("close", None)))
        self.same(growing(design=SAMPLE, mode="night", terms=terms), growing(terms, SAMPLE))
        self.assertIs(growing(terms, SAMPLE, mode="day"), None)
        self.assertIs(bounded(terms=terms, design=STILL.renamed((("a", "inside"), ("b", "invited"))), mode="n"), True)

    def test_one_to_four_terms(self):
        asked, came = Expression("invited"), Expression("inside")
        self.assertEqual(growing(((asked, 1),), SAMPLE), (("invite", ("x",)),))
        self.assertIs(growing(((asked, 0),), SAMPLE), None)
        self.assertIs(growing(((asked, -1),), SAMPLE), None)
        self.assertEqual(growing(((asked, 1), (asked, 1), (asked, -1), (asked, -1)), SAMPLE), None)
        self.assertEqual(growing(((asked, 1), (asked, 1), (asked, -1), (came, -1)), SAMPLE), (("invite", ("x",)),))
        self.assertEqual(growing(((came, 3), (asked, -2), (asked, 1), (came, -1)), SAMPLE), (("invite", ("x",)), ("enter", "x")))

    def test_integers_of_forty_digits(self):
        asked, came = Expression("invited"), Expression("inside")
        great = 10 ** 40 - 1
        self.assertIs(bounded(((came, great), (asked, -great)), SAMPLE, mode="day"), True)
        self.assertIs(bounded(((came, great), (asked, 1 - great)), SAMPLE, mode="day"), False)
        self.assertEqual(growing(((came, great), (asked, 1 - great)), SAMPLE), (("invite", ("x",)), ("enter", "x")))
        self.assertIs(bounded(((came, -great), (asked, great - 1)), SAMPLE, mode="night"), True)

    def test_as_a_plain_search(self):
        chance, designs = shapes(79, 50)
        grown = 0
        for design in designs:
            ways = plain_ways(design, ONE)
            for _ in range(6):
                terms = tuple((expression(chance, design), chance.choice([-3, -2, -1, -1, 0, 1, 1, 2, 10 ** 39])) for _ in range(chance.randint(1, 4)))
                for mode in (None,) + design.modes:
                    due = first(ways, lambda keeper: mode in (None, keeper.mode) and sizes(terms, keeper) > 0)
                    self.assertEqual(growing(terms, design, mode=mode), due)
                    self.same(bounded(terms, design, mode=mode), due is None)
                    grown += due is not None
        self.assertGreater(grown, 100)

    def test_a_number_that_the_sum_never_passes(self):
        chance, designs = shapes(80, 12)
        for design in designs:
            for _ in range(4):
                terms = tuple((expression(chance, design), chance.choice([-2, -1, 1, 2])) for _ in range(2))
                for mode in design.modes:
                    sums = [sizes(terms, keeper) for _, keeper in all_ways(design, ("a", "b"), 3) if keeper.mode == mode]
                    if bounded(terms, design, mode=mode):
                        self.assertLessEqual(max(sums, default=0), 0)

    def test_sums_grow_with_the_members(self):
        chance, designs = shapes(81, 12)
        for design in designs:
            terms = ((expression(chance, design), 2), (expression(chance, design), -1))
            way = growing(terms, design)
            if way is not None:
                keeper = Plain(design)
                for call, argument in way:
                    names = ["x", "x1", "x2"] if argument == "x" else [("x", "x1", "x2") if argument else argument]
                    for one in names:
                        self.assertTrue(keeper.do(call, one))
                self.assertEqual(sizes(terms, keeper), 3 * sizes(terms, plain_play(design, way)))


class PastTest(CloseCase):

    def test_the_sample(self):
        came, asked = Expression("inside"), Expression("invited")
        self.assertIs(been(came, asked, SAMPLE), None)
        self.assertEqual(been(asked, came, SAMPLE), (("invite", ("x",)),))
        self.assertEqual(stays(asked, SAMPLE), (("invite", ("x",)), ("close", None)))
        self.assertEqual(stays(came, SAMPLE), (("invite", ("x",)), ("enter", "x"), ("leave", "x")))
        self.assertIs(comes(came, asked, SAMPLE), None)
        self.assertEqual(comes(design=SAMPLE, other=came, one=asked), (("invite", ("x",)),))
        self.assertEqual(been(design=SAMPLE, other=came, one=asked), (("invite", ("x",)),))
        self.assertEqual(stays(design=SAMPLE, one=asked), stays(asked, SAMPLE))

    def test_then_or_at_an_earlier_time(self):
        both = Design(("a", "b"), ("m",), (("p", "one", (("m", (), (("a", "given"), ("b", "given")), "m"),)), ("q", "none", (("m", (), (("b", "none"),), "m"),))), ())
        a, b = Expression("a"), Expression("b")
        self.assertEqual([been(a, b, both), been(b, a, both), been(a, Expression.read("b - a"), both)], [None, None, (("p", "x"),)])
        self.assertEqual(comes(a, b, both), (("p", "x"),))
        self.assertEqual(stays(b, both), (("p", "x"), ("q", None)))
        self.assertIs(been(Expression("none"), b, both), None)
        self.assertIs(stays(Expression("none"), both), None)

    def test_nothing_ever_happens(self):
        a, b = Expression("a"), Expression("b")
        self.assertEqual([been(a, b, BARE), stays(a, BARE), comes(a, b, BARE)], [None, None, None])
        self.assertEqual([been(b, a, STILL), stays(b, STILL), comes(b, a, STILL), been(a, b, STILL)], [None, None, None, (("p", "x"),)])

    def test_as_a_plain_search(self):
        chance, designs = shapes(82, 60)
        counts = [0, 0, 0]
        for design in designs:
            for _ in range(5):
                one, other = expression(chance, design), expression(chance, design)
                due = (self.plain_been(design, one, other), self.plain_stays(design, one), self.plain_comes(design, one, other))
                found = (been(one, other, design), stays(one, design), comes(one, other, design))
                self.assertEqual(found, due)
                counts = [count + (way is not None) for count, way in zip(counts, due)]
        self.assertTrue(all(30 < count < 350 for count in counts), counts)

    def plain_been(self, design, one, other):
        """A search over keepers of which each one knows whether x was in the other one."""
        found = [((), Plain(design), False)]
        seen = {(found[0][1].key(), False)}
        for way, keeper, was in found:
            if "x" in keeper.who(one.form) and not was:
                return way
            for deed in deeds(design, ONE):
                later = keeper.copy()
                if later.do(*deed):
                    is_now = was or "x" in later.who(other.form)
                    if (later.key(), is_now) not in seen:
                        seen.add((later.key(), is_now))
                        found.append(((*way, deed), later, is_now))
        return None

    def plain_stays(self, design, one):
        return self.plain_deed(design, lambda before, behind: before(one) and not behind(one))

    def plain_comes(self, design, one, other):
        return self.plain_deed(design, lambda before, behind: behind(one) and not before(one) and not before(other))

    def plain_deed(self, design, shows):
        for way, keeper in plain_ways(design, ONE):
            for deed in deeds(design, ONE):
                later = keeper.copy()
                if later.do(*deed) and shows(lambda part: "x" in keeper.who(part.form), lambda part: "x" in later.who(part.form)):
                    return (*way, deed)
        return None

    def test_the_first_ones_among_all(self):
        chance, designs = shapes(83, 15)
        for design in designs:
            one, other = expression(chance, design), expression(chance, design)
            found = (been(one, other, design), stays(one, design), comes(one, other, design))
            examples = ([], [], [])
            for way, keeper in all_ways(design, ONE, 4):
                past = [plain_play(design, way[:many]) for many in range(len(way) + 1)]
                inside = ["x" in keeper.who(one.form) for keeper in past]
                early = ["x" in keeper.who(other.form) for keeper in past]
                if inside[-1] and not any(early):
                    examples[0].append(way)
                if len(way) and inside[-2] and not inside[-1]:
                    examples[1].append(way)
                if len(way) and inside[-1] and not inside[-2] and not early[-2]:
                    examples[2].append(way)
            for way, ways in zip(found, examples):
                if ways:
                    self.assertEqual(way, ways[0])
                elif way is not None:
                    self.assertGreater(len(way), 4)

    def test_in_keepers_with_many_members(self):
        chance, designs = shapes(84, 10)
        for design in designs:
            one, other = expression(chance, design), expression(chance, design)
            no_been, no_stays, no_comes = been(one, other, design), stays(one, design), comes(one, other, design)
            for way, keeper in all_ways(design, ("a", "b"), 3):
                past = [plain_play(design, way[:many]) for many in range(len(way) + 1)]
                inside, early = [keeper.who(one.form) for keeper in past], [keeper.who(other.form) for keeper in past]
                if no_been is None:
                    self.assertLessEqual(inside[-1], set().union(*early))
                if no_stays is None and way:
                    self.assertLessEqual(inside[-2], inside[-1])
                if no_comes is None and way:
                    self.assertLessEqual(inside[-1] - inside[-2], early[-2])
