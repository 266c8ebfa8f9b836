"""The examples that the document prints, word for word."""

import doctest
import unittest

EXAMPLES = '''
>>> from onemember.members import Members
>>> ann, both = Members("ann"), Members("bob", "ann", "bob")
>>> [both.names, str(both), len(both), "bob" in both, ann <= both, both < both, both - ann == Members("bob")]
[('ann', 'bob'), 'ann bob', 2, True, True, False, True]

>>> from onemember.members import Change, Members
>>> change = Change.between(Members("ann"), Members("cid"))
>>> [str(Members("ann", "bob") + change), repr(change), abs(-change), str((change + -change).came), repr(Members())]
['bob cid', 'Change(+1, -1)', 2, 'ann', 'Members(0)']

>>> from onemember.expressions import Expression, Fact, differing, same_sets
>>> from onemember.members import Members
>>> late = Expression.read("invited - (inside | given)")
>>> sets = (("inside", Members("ann")), ("invited", Members("ann", "bob", "cid")))
>>> [late.form, late.leaves, late.depth, late.fields, late.has_given, str(late.of(sets, given=Members("cid")))]
[('-', 'invited', ('|', 'inside', 'given')), 3, 3, ('inside', 'invited'), True, 'bob']

>>> from onemember.expressions import Expression, Fact, differing, same_sets
>>> a, b = Expression("a"), Expression("b")
>>> [str((a | b) - (a & b)), same_sets((a | b) - (a & b), a ^ b), differing(a - b, a), repr(Fact(a, b)), a.meets(("a", "c"))]
['(a | b) - (a & b)', True, (('a', 'b'), False), 'Fact(a <= b)', True]
'''


class ExamplesTest(unittest.TestCase):

    def test_each_example(self):
        parser = doctest.DocTestParser()
        for number, text in enumerate(EXAMPLES.strip().split("\n\n")):
            test = parser.get_doctest(text, {}, f"example {number}", None, None)
            told = []
            found = doctest.DocTestRunner(verbose=False).run(test, out=told.append)
            self.assertEqual((found.failed, found.attempted), (0, len(test.examples)), "".join(told))
            self.assertGreater(found.attempted, 2)
