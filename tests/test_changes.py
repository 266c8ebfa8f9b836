"""Promise 3: changes from one Members to another."""

import itertools
import operator

from onemember.errors import NotAChange, NotComparable, NotMembers
from onemember.members import Change, Members
from tests.helper import CloseCase, strange_values

SUBSETS = [Members(*names) for many in range(4) for names in itertools.combinations("abc", many)]
CHANGES = [Change(came, went) for came in SUBSETS for went in SUBSETS if not came & went]


class MakingTest(CloseCase):

    def test_both_sides(self):
        came, went = Members("ann"), Members("bob", "cid")
        change = Change(came, went)
        self.assertEqual((change.came, change.went), (came, went))
        self.assertEqual((repr(change), abs(change)), ("Change(+1, -2)", 3))
        self.assertEqual(Change(went=went, came=came), change)

    def test_no_names(self):
        none = Change(Members(), Members())
        self.assertEqual((repr(none), abs(none), bool(none)), ("Change(+0, -0)", 0, False))

    def test_truth(self):
        self.assertIs(bool(Change(Members("a"), Members())), True)
        self.assertIs(bool(Change(Members(), Members("a"))), True)
        self.assertIs(bool(Change(Members("b"), Members("a"))), True)

    def test_wrong_sides(self):
        for wrong in strange_values(Members):
            self.refused(NotMembers, {"value": wrong}, Change, wrong, Members())
            self.refused(NotMembers, {"value": wrong}, Change, Members("ann"), wrong)
            self.refused(NotMembers, {"value": wrong}, Change, wrong, "ann")

    def test_a_name_in_both(self):
        self.refused(NotComparable, {}, Change, Members("ann", "bob"), Members("bob", "cid"))
        self.refused(NotComparable, {}, Change, Members("ann"), Members("ann"))

    def test_between(self):
        change = Change.between(Members("ann", "bob"), Members("bob", "cid", "dan"))
        self.assertEqual((change.came.names, change.went.names), (("cid", "dan"), ("ann",)))
        self.assertEqual(Change.between(after=Members("a"), before=Members()), Change(Members("a"), Members()))
        self.assertFalse(Change.between(Members("ann"), Members("ann")))

    def test_between_wrong_sides(self):
        for wrong in strange_values(Members):
            self.refused(NotMembers, {"value": wrong}, Change.between, wrong, Members("ann"))
            self.refused(NotMembers, {"value": wrong}, Change.between, Members("ann"), wrong)
            self.refused(NotMembers, {"value": wrong}, Change.between, wrong, "ann")


class EqualityTest(CloseCase):

    def test_equal_if_both_sides_are(self):
        for one in CHANGES:
            for other in CHANGES:
                due = (one.came.names, one.went.names) == (other.came.names, other.went.names)
                self.assertIs(one == other, due)
                self.assertIs(one != other, not due)

    def test_never_equal_to_another_class(self):
        change = Change(Members("ann"), Members())
        for value in [(Members("ann"), Members()), Members("ann")] + strange_values(Change):
            self.assertIs(change == value, False)
            self.assertIs(value == change, False)
            self.assertIs(change != value, True)


class SumTest(CloseCase):

    def test_members_and_a_change(self):
        found = Members("ann", "bob") + Change(Members("bob", "cid"), Members("ann", "dan"))
        self.assertIs(found.__class__, Members)
        self.assertEqual(found.names, ("bob", "cid"))

    def test_between_leads_from_one_to_the_other(self):
        for before in SUBSETS:
            for after in SUBSETS:
                self.assertEqual(before + Change.between(before, after), after)

    def test_the_sum_does_both(self):
        for first in CHANGES:
            for second in CHANGES:
                both = first + second
                self.assertIs(both.__class__, Change)
                for some in SUBSETS:
                    self.assertEqual(some + both, (some + first) + second)

    def test_who_comes_and_goes(self):
        ann, none = Members("ann"), Members()
        come, go = Change(ann, none), Change(none, ann)
        self.assertEqual([come + go, go + come, come + come, go + go], [go, come, come, go])

    def test_the_opposite(self):
        for change in CHANGES:
            found = -change
            self.assertIs(found.__class__, Change)
            self.assertEqual((found.came, found.went, abs(found)), (change.went, change.came, abs(change)))

    def test_a_second_name_stays(self):
        members = same = Members("ann")
        change = twin = Change(Members("bob"), Members("ann"))
        members += change
        change += Change(Members("ann"), Members())
        self.assertEqual((str(same), str(members), repr(twin), repr(change)),
                         ("ann", "bob", "Change(+1, -1)", "Change(+2, -0)"))

    def test_wrong_right_operands(self):
        for wrong in strange_values(Change):
            self.refused(NotAChange, {"value": wrong}, operator.add, Members("ann"), wrong)
            self.refused(NotAChange, {"value": wrong}, operator.add, Change(Members("a"), Members()), wrong)
