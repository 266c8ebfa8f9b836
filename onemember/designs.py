"""Designs of objects that keep sets: fields, modes, calls and views (point 9)."""

from onemember.errors import InvalidCalls, InvalidText, NotADesign, SetError, TooManyCalls
from onemember.errors import UnknownCall, UnknownMode, UnknownView
from onemember.expressions import Expression
from onemember.forms import form_renamed
from onemember.limits import MOST_CALLS
from onemember.shapes import check_calls, check_fields, check_modes, check_pairs, check_views, is_call
from onemember.texts import design_lines, read_parts


class Design:
    """What an object that keeps sets is like; a design never changes."""

    def __init__(self, fields, modes, calls, views):
        check_fields(fields)
        check_modes(modes)
        check_calls(calls, fields, modes)
        check_views(views, fields, modes)
        self._parts = (fields, modes, calls, views)
        self._fields = fields
        self._modes = modes
        self._calls = calls
        self._views = views
        self._names = tuple([name for name, _, _ in calls])
        self._view_names = tuple([name for name, _ in views])
        self._cases = {(name, case[0]): case for name, _, cases in calls for case in cases}
        self._shown = {(name, mode): Expression(form) for name, forms in views for mode, form in zip(modes, forms)}

    @staticmethod
    def read(text):
        """The design with this text."""
        parts = read_parts(text)
        if parts is None:
            raise InvalidText(text)
        try:
            design = Design(*parts)
        except SetError:
            raise InvalidText(text) from None
        # Lines in another order tell the same design, but are not its text.
        if str(design) != text:
            raise InvalidText(text)
        return design

    @property
    def fields(self):
        """The names of the sets."""
        return self._fields

    @property
    def modes(self):
        """The modes; the first one is that of a new keeper."""
        return self._modes

    @property
    def calls(self):
        """The calls: triples (name, sort, cases)."""
        return self._calls

    @property
    def views(self):
        """The views: pairs (name, forms)."""
        return self._views

    @property
    def names(self):
        """The names of the calls, in their order."""
        return self._names

    @property
    def view_names(self):
        """The names of the views, in their order."""
        return self._view_names

    def __str__(self):
        return "\n".join(design_lines(*self._parts))

    def __repr__(self):
        return f"Design({len(self._fields)} fields, {len(self._modes)} modes, {len(self._calls)} calls)"

    def __len__(self):
        return len(self._calls)

    def __eq__(self, other):
        return isinstance(other, Design) and self._parts == other._parts

    def __contains__(self, value):
        return value in self._names

    def sort_of(self, call):
        """The sort of a call."""
        if call not in self._names:
            raise UnknownCall(call)
        return self._calls[self._names.index(call)][1]

    def case_of(self, call, mode):
        """The case of a call for a mode, or None."""
        if call not in self._names:
            raise UnknownCall(call)
        if mode not in self._modes:
            raise UnknownMode(mode)
        return self._cases.get((call, mode))

    def view_of(self, name, mode):
        """The Expression of a view in a mode."""
        if name not in self._view_names:
            raise UnknownView(name)
        if mode not in self._modes:
            raise UnknownMode(mode)
        return self._shown[name, mode]

    def with_call(self, call):
        """The design with this call, behind the others or in the place of the one with its name."""
        if not is_call(call, self._fields, self._modes):
            raise InvalidCalls(0)
        calls = tuple([call if call[0] == old[0] else old for old in self._calls])
        if call[0] not in self._names:
            calls = (*calls, call)
        if len(calls) > MOST_CALLS:
            raise TooManyCalls(MOST_CALLS)
        return Design(self._fields, self._modes, calls, self._views)

    def without(self, name):
        """The design without this call."""
        if name not in self._names:
            raise UnknownCall(name)
        calls = tuple([call for call in self._calls if call[0] != name])
        return Design(self._fields, self._modes, calls, self._views)

    def renamed(self, pairs):
        """The design with other names of fields, told as pairs (name of a field, new name)."""
        check_pairs(pairs, self._fields)
        names = dict(pairs)
        fields = tuple([names.get(field, field) for field in self._fields])
        calls = tuple([renamed_call(call, names) for call in self._calls])
        views = tuple([(name, renamed_forms(forms, names)) for name, forms in self._views])
        return Design(fields, self._modes, calls, views)


def renamed_call(call, names):
    """A call with other names of fields, where the dict has the new ones."""
    name, sort, cases = call
    return (name, sort, tuple([renamed_case(case, names) for case in cases]))


def renamed_case(case, names):
    """A case with other names of fields."""
    mode, facts, updates, after = case
    new_facts = tuple([renamed_forms(fact, names) for fact in facts])
    # The field of an update is a form, too.
    new_updates = tuple([renamed_forms(update, names) for update in updates])
    return (mode, new_facts, new_updates, after)


def renamed_forms(forms, names):
    """A tuple of forms with other names of fields."""
    return tuple([form_renamed(form, names) for form in forms])


def check_design(value):
    """Refuse a value that is not a Design."""
    if not isinstance(value, Design):
        raise NotADesign(value)
