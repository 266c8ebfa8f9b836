"""The examples that the document prints, word for word."""

import unittest

EXAMPLES = r'''
>>> from onemember.members import Members
>>> ann, both = Members("ann"), Members("bob", "ann", "bob")
>>> [both.names, str(both), len(both), "bob" in both, ann <= both, both < both, both - ann == Members("bob")]
[('ann', 'bob'), 'ann bob', 2, True, True, False, True]

>>> from onemember.members import Change, Members
>>> change = Change.between(Members("ann"), Members("cid"))
>>> [str(Members("ann", "bob") + change), repr(change), abs(-change), str((change + -change).came), repr(Members())]
['bob cid', 'Change(+1, -1)', 2, 'ann', 'Members(0)']

>>> from onemember.expressions import Expression, Fact, differing, same_sets
>>> from onemember.members import Members
>>> late = Expression.read("invited - (inside | given)")
>>> sets = (("inside", Members("ann")), ("invited", Members("ann", "bob", "cid")))
>>> [late.form, late.leaves, late.depth, late.fields, late.has_given, str(late.of(sets, given=Members("cid")))]
[('-', 'invited', ('|', 'inside', 'given')), 3, 3, ('inside', 'invited'), True, 'bob']

>>> from onemember.expressions import Expression, Fact, differing, same_sets
>>> a, b = Expression("a"), Expression("b")
>>> [str((a | b) - (a & b)), same_sets((a | b) - (a & b), a ^ b), differing(a - b, a), repr(Fact(a, b)), a.meets(("a", "c"))]
['(a | b) - (a & b)', True, (('a', 'b'), False), 'Fact(a <= b)', True]

>>> from onemember.designs import Design
>>> from onemember.samples import sample_design
>>> design = sample_design()
>>> [repr(design), len(design), "enter" in design, design.names, design.sort_of("enter"), design.view_names, design.case_of("enter", "night")]
['Design(2 fields, 2 modes, 5 calls)', 5, True, ('invite', 'enter', 'leave', 'close', 'begin'), 'one', ('guests', 'awaited'), None]

>>> from onemember.designs import Design
>>> from onemember.samples import sample_design
>>> design = sample_design()
>>> less = design.without("leave").renamed((("inside", "within"),))
>>> [less.case_of("begin", "night"), str(less.view_of("awaited", "day")), Design.read(str(design)) == design, less.fields]
[('night', (('within', 'none'),), (), 'day'), 'invited - within', True, ('invited', 'within')]

>>> from onemember.samples import sample_design
>>> design = sample_design()
>>> design.with_call(("enter", "one", (("day", (), (("door", "given"),), "day"),)))
raises InvalidCalls(index=0)

>>> from onemember.keepers import Keeper
>>> from onemember.members import Members
>>> from onemember.samples import sample_design
>>> keeper = Keeper(sample_design())
>>> first = keeper.do("invite", Members("ann", "bob"))
>>> second = keeper("enter", "ann")
>>> [first[0][0], first[0][1].came.names, [(name, repr(change)) for name, change in second], keeper.can("enter", "cid"), repr(keeper)]
['awaited', ('ann', 'bob'), [('guests', 'Change(+1, -0)'), ('awaited', 'Change(+0, -1)')], False, 'Keeper(day, 2 deeds)']

>>> from onemember.keepers import Keeper
>>> from onemember.members import Members
>>> from onemember.samples import sample_design
>>> keeper = Keeper(sample_design())
>>> keeper.do_all(("invite", Members("ann", "bob")), ("enter", "bob"), ("close", None))
>>> closed = [keeper.mode, keeper.members("invited").names, keeper.shown("guests").names, len(keeper)]
>>> keeper.undo()
>>> closed + [keeper.state[0], str(keeper.state[1][0][1]), keeper.log[1]]
['night', (), ('bob',), 3, 'day', 'ann bob', ('enter', 'bob')]

>>> from onemember.keepers import Keeper
>>> from onemember.samples import sample_design
>>> Keeper(sample_design()).do("enter", "ann")
raises Refused(index=0)

>>> from onemember.expressions import Fact
>>> from onemember.keepers import Keeper, set_facts
>>> from onemember.members import Members
>>> from onemember.samples import sample_design
>>> keeper = Keeper(sample_design())
>>> set_facts(keeper, (Fact.read("inside <= invited"),))
>>> keeper.do_all(("invite", Members("ann")), ("enter", "ann"))
>>> keeper.do("close")
raises Broken(index=0)

>>> from onemember.keepers import Hall, get_keeper, put_keeper
>>> from onemember.members import Members
>>> from onemember.samples import sample_design
>>> hall = Hall()
>>> put_keeper(hall, "east", sample_design())
>>> hall.do_all(("east", "invite", Members("ann")), ("east", "enter", "bob"))
raises Stopped(index=1)

>>> from onemember.histories import compare, histories, history_text, outcomes, read_history
>>> from onemember.samples import sample_design
>>> design = sample_design()
>>> way = read_history("invite {x}; enter y; enter x")
>>> [way[0], outcomes(design, way), history_text((("close", None), ("invite", ()))), compare(design, way[:1], way[1:2])]
[('invite', ('x',)), (True, False, True), 'close; invite {}', -1]

>>> from onemember.histories import histories, history_text
>>> from onemember.samples import sample_design
>>> [history_text(way) for way in histories(sample_design(), ("x",), most=1)]
['', 'invite {}', 'invite {x}', 'leave x', 'close']

>>> from onemember.deciding import always, breaking, nodes, way_to
>>> from onemember.expressions import Fact
>>> from onemember.histories import history_text
>>> from onemember.samples import sample_design
>>> design, fact = sample_design(), Fact.read("inside <= invited")
>>> [nodes(design), history_text(way_to(design, "night", ("inside",)))]
[(('day', ()), ('day', ('invited',)), ('day', ('invited', 'inside')), ('night', ()), ('night', ('inside',))), 'invite {x}; enter x; close']

>>> from onemember.deciding import always, breaking
>>> from onemember.expressions import Fact
>>> from onemember.histories import history_text
>>> from onemember.samples import sample_design
>>> design, fact = sample_design(), Fact.read("inside <= invited")
>>> [always(fact, design), always(fact, design, mode="day"), history_text(breaking(fact, design))]
[False, True, 'invite {x}; enter x; close']

>>> from onemember.deciding import apart, been, bounded, comes, growing, meeting, stays
>>> from onemember.expressions import Expression
>>> from onemember.histories import history_text
>>> from onemember.samples import sample_design
>>> design, came, asked = sample_design(), Expression("inside"), Expression("invited")
>>> terms = ((came, 1), (asked, -1))
>>> [bounded(terms, design, mode="day"), history_text(growing(terms, design)), been(came, asked, design), history_text(stays(asked, design)), comes(came, asked, design)]
[True, 'invite {x}; enter x; close', None, 'invite {x}; close', None]

>>> from onemember.deciding import apart, meeting
>>> from onemember.expressions import Expression
>>> from onemember.histories import history_text
>>> from onemember.samples import sample_design
>>> design, came, late = sample_design(), Expression("inside"), Expression.read("invited - inside")
>>> [apart(came, late, design, mode="night"), history_text(meeting(came, late, design))]
[True, 'invite {x y}; enter x']

>>> from onemember.alike import alike, falling, parting, stands_in
>>> from onemember.samples import sample_design
>>> design = sample_design()
>>> kept = design.with_call(("close", "none", (("day", (), (), "night"),)))
>>> free = design.with_call(("begin", "none", (("night", (), (("inside", "none"),), "day"),)))
>>> [alike(design, kept), parting(design, kept), stands_in(free, design), stands_in(design, free)]
[False, ((('invite', ('x',)), ('close', None), ('begin', None)), 'view', 'awaited'), True, False]

>>> from onemember.alike import falling
>>> from onemember.histories import history_text
>>> from onemember.samples import sample_design
>>> design = sample_design()
>>> free = design.with_call(("begin", "none", (("night", (), (("inside", "none"),), "day"),)))
>>> way, word, what = falling(design, free)
>>> [history_text(way), word, what]
['invite {x}; enter x; close', 'deed', ('begin', None)]

>>> from onemember.designs import Design
>>> from onemember.loops import loop_parting, same_loop
>>> one = ("add", "one", (("m", ((("&", "given", "off"), "none"),), (("on", ("|", "on", "given")),), "m"),))
>>> many = ("all", "many", (("m", ((("&", "given", "off"), "none"),), (("on", ("|", "on", "given")),), "m"),))
>>> bar = ("bar", "one", (("m", (), (("off", ("|", "off", "given")),), "m"),))
>>> design = Design(("on", "off"), ("m",), (one, many, bar), ())
>>> [same_loop(design, "add", "all", rule="whole"), loop_parting(design, "add", "all", rule="skip"), loop_parting(design, "add", "all")]
[True, ((('bar', 'x'),), ('x',)), ((('bar', 'y'),), ('x', 'y'))]

>>> from onemember.order import commute, disorder
>>> from onemember.samples import sample_design
>>> design = sample_design()
>>> [commute(design, "invite", "leave"), commute(design, "close", "begin"), disorder(design, "enter", "leave"), disorder(design, "invite", "enter")]
[True, False, ((('invite', ('x',)),), 'x', 'x'), ((), ('x',), 'x')]

>>> from onemember.designs import Design
>>> from onemember.least import classes, fewest, told_apart
>>> come = ("come", "one", (("m", (), (("seen", ("|", "seen", "given")), ("new", ("-", ("|", "new", "given"), "seen"))), "m"),))
>>> rest = ("rest", "none", (("m", (), (("new", "none"),), "m"),))
>>> design = Design(("seen", "new"), ("m",), (come, rest), (("fresh", ("new",)),))
>>> [classes(design), fewest(design), told_apart(design, "m", ("seen",), ())]
[((((),), (('seen',),), (('seen', 'new'),)),), 2, ((('come', 'x'),), 'view', 'fresh')]

>>> from onemember.alike import alike
>>> from onemember.designs import Design
>>> from onemember.least import least_design
>>> come = ("come", "one", (("m", (), (("a", ("|", "a", "given")), ("b", ("|", "b", "given"))), "m"),))
>>> design = Design(("a", "b"), ("m",), (come,), (("here", (("&", "a", "b"),)),))
>>> less = least_design(design)
>>> [len(less.fields), alike(design, less), less.names, less.view_names]
[1, True, ('come',), ('here',)]

>>> from onemember.deciding import always
>>> from onemember.expressions import Fact
>>> from onemember.guards import doomed, weakest
>>> from onemember.histories import outcomes, read_history
>>> from onemember.samples import sample_design
>>> design, fact = sample_design(), Fact.read("inside <= invited")
>>> safe, strict = weakest(fact, design), weakest(fact, design, free=("close",))
>>> [always(fact, safe), outcomes(safe, read_history("invite {x}; enter x; close; leave x; close")), outcomes(strict, read_history("invite {x}; enter x; close")), doomed(fact, design, free=("invite", "enter", "close"))]
[True, (True, True, False, True, True), (True, False, True), (('invite', ('x',)), ('enter', 'x'), ('close', None))]

>>> from onemember.designs import Design
>>> from onemember.needless import derived, needless, pruned
>>> come = ("come", "one", (("m", (("none", "given"),), (("a", ("|", "a", "given")), ("b", ("|", "a", "given"))), "m"), ("n", (), (), "n")))
>>> design = Design(("a", "b"), ("m", "n"), (come,), ())
>>> [needless(design), derived(design, "b").fields, pruned(design).calls]
[(('fact', 'come', 'm', 0), ('case', 'come', 'n')), ('a',), (('come', 'one', (('m', (), (('a', ('|', 'a', 'given')), ('b', ('|', 'a', 'given'))), 'm'),)),)]

>>> from onemember.deciding import nodes
>>> from onemember.designs import Design
>>> from onemember.joining import beside, merged
>>> mark = ("mark", "one", (("m", (), (("a", ("|", "a", "given")),), "m"),))
>>> twin = ("mark", "one", (("m", (("given", "none"),), (), "m"),))
>>> first = Design(("a",), ("m",), (mark,), ())
>>> both = beside(first, Design(("b",), ("m",), (twin,), (("seen", ("b",)),)))
>>> [both.fields, both.calls, both.view_names, nodes(both)]
[('a', 'b'), (('mark', 'one', (('m', (('given', 'none'),), (('a', ('|', 'a', 'given')),), 'm'),)),), ('seen',), (('m', ()),)]

>>> from onemember.keepers import Keeper
>>> from onemember.members import Members
>>> from onemember.reports import node_report, size_report
>>> from onemember.samples import sample_design
>>> keeper = Keeper(sample_design())
>>> keeper.do_all(("invite", Members("ann", "bob", "cid")), ("enter", "cid"))
>>> [node_report(sample_design()).split("\n"), size_report(keeper).split("\n")]
[['day    0 -', 'day    1 invited', 'day    2 invited inside', 'night  0 -', 'night  1 inside'], ['invited: 3 100.0 percent', ' inside: 1 33.3 percent']]

>>> from onemember.certificates import certify_always
>>> from onemember.checker import holds
>>> from onemember.deciding import nodes
>>> from onemember.expressions import Fact
>>> from onemember.samples import sample_design
>>> design, fact = sample_design(), Fact.read("inside <= invited")
>>> claim, paper = certify_always(fact, design, mode="day")
>>> less = tuple(list(nodes(design))[1:])
>>> [claim[0], holds(claim, paper), holds(claim, nodes(design)), holds(claim, less), certify_always(fact, design)[0][0]]
['always', True, True, False, 'not always']

>>> from onemember.console import Console
>>> from onemember.samples import sample_design
>>> console = Console(sample_design())
>>> lines = ("do invite {ann bob}; enter ann", "show awaited", "do leave ann; enter cid", "field inside", "always inside <= invited", "undo", "fewest")
>>> [console.say(line) for line in lines]
['day', 'bob', 'refused 1', 'ann', 'no invite {x}; enter x; close', 'day', '2']
'''


class ExamplesTest(unittest.TestCase):

    def test_each_example(self):
        for number, text in enumerate(EXAMPLES.strip().split("\n\n")):
            with self.subTest(number=number):
                self.check(text)

    def test_all_examples_are_there(self):
        self.assertEqual(len(EXAMPLES.strip().split("\n\n")), 30)

    def check(self, text):
        """The last statement gives what the line behind it tells, or raises it."""
        *lines, due = text.split("\n")
        statements = [line.removeprefix(">>> ") for line in lines]
        names = {}
        for statement in statements[:-1]:
            exec(statement, names)
        if not due.startswith("raises "):
            self.assertEqual(repr(eval(statements[-1], names)), due)
            return
        with self.assertRaises(Exception) as caught:
            exec(statements[-1], names)
        error = caught.exception
        shown = ", ".join(f"{name}={value!r}" for name, value in vars(error).items() if name != "reason")
        self.assertEqual(f"raises {error.__class__.__name__}({shown})", due)
