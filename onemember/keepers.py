"""Keepers, which do the deeds of a design (point 10), keepers with a roster, and halls of keepers."""

from onemember.deeds import behind_deed, check_deed, check_kept, first_state, shown_members, view_changes
from onemember.designs import check_design
from onemember.errors import Broken, Busy, InvalidDeeds, InvalidFacts, InvalidName, NothingToUndo, Refused, SetError
from onemember.errors import StateError, Stopped, Stranger, UnknownField, UnknownKeeper, WrongMode
from onemember.expressions import Fact
from onemember.kinds import is_tuple_of
from onemember.members import check_members
from onemember.names import is_name


class Keeper:
    """An object of a design: its mode, its sets, and the deeds that were done."""

    def __init__(self, design):
        check_design(design)
        self._design = design
        self._now = first_state(design)
        # For each deed that was done, the pair of the deed and the state right before it.
        self._past = ()
        self._facts = ()
        self._busy = False
        # What the innermost block of a trial puts back, or None.
        self._entered = None

    @property
    def design(self):
        """The design."""
        return self._design

    @property
    def mode(self):
        """The mode."""
        return self._now[0]

    @property
    def log(self):
        """The tuple of the deeds that were done, pairs (call, argument)."""
        return tuple([deed for deed, _ in self._past])

    @property
    def state(self):
        """The pair of the mode and the tuple of the pairs (field, Members)."""
        return self._now

    @property
    def busy(self):
        """Whether do_all is at work."""
        return self._busy

    @property
    def facts(self):
        """The Facts that hold behind each deed."""
        return self._facts

    @facts.setter
    def facts(self, value):
        self._check_idle()
        check_own_facts(value, self._design)
        check_kept(value, self._now)
        self._facts = value

    def __len__(self):
        return len(self._past)

    def __repr__(self):
        return f"{self.__class__.__name__}({self._now[0]}, {len(self._past)} deeds)"

    def __call__(self, call, argument=None):
        """The same as do."""
        return self.do(call, argument)

    def do(self, call, argument=None):
        """Do a deed; the changes of the views."""
        self._check_idle()
        before = self._now
        self._step(call, argument)
        return view_changes(self._design, before, self._now)

    def can(self, call, argument=None):
        """Whether the deed would be done now, if the keeper is not busy."""
        self._check_deed(call, argument)
        try:
            self._behind(call, argument)
        except (WrongMode, Refused, Broken):
            return False
        return True

    def undo(self):
        """Take back the last deed; the changes of the views."""
        self._check_idle()
        if not self._past:
            raise NothingToUndo("no deed was done")
        before = self._now
        _, earlier = self._past[-1]
        check_kept(self._facts, earlier)
        self._now = earlier
        self._past = self._past[:-1]
        return view_changes(self._design, before, earlier)

    def do_all(self, *deeds, watch=None):
        """Do pairs (call, argument), all or none; watch is called behind each one."""
        self._check_idle()
        check_deeds(deeds, 2)
        now, past = self._now, self._past
        done = None
        self._busy = True
        try:
            for at, (call, argument) in enumerate(deeds):
                self._step(call, argument)
                if watch is not None:
                    watch(self, at)
            done = True
        finally:
            self._busy = False
            if done is None:
                self._now, self._past = now, past

    def trial(self):
        """The keeper, for a block at whose end everything is as at its beginning."""
        self._check_idle()
        return self

    def __enter__(self):
        self._entered = Entered(self, self._entered)
        return self

    def __exit__(self, kind, value, trace):
        self._now = self._entered.now
        self._past = self._entered.past
        self._facts = self._entered.facts_then
        self._entered = self._entered.outer

    def members(self, field):
        """The Members of a field."""
        if field not in self._design.fields:
            raise UnknownField(field)
        return dict(self._now[1])[field]

    def shown(self, view):
        """The Members of a view."""
        return shown_members(self._design, self._now, view)

    def _check_idle(self):
        """Refuse to change while do_all is at work."""
        if self._busy:
            raise Busy("do_all is at work")

    def _check_deed(self, call, argument):
        """Refuse what this keeper takes for no deed, whatever its state is."""
        check_deed(self._design, call, argument)

    def _behind(self, call, argument):
        """The state behind a deed, if it can be done now."""
        behind = behind_deed(self._design, self._now, call, argument)
        check_kept(self._facts, behind)
        return behind

    def _step(self, call, argument):
        """Do a deed."""
        self._check_deed(call, argument)
        behind = self._behind(call, argument)
        self._past = (*self._past, ((call, argument), self._now))
        self._now = behind


class RosterKeeper(Keeper):
    """A keeper that lets only the Members of a roster into arguments."""

    def __init__(self, design, roster):
        super().__init__(design)
        check_members(roster)
        self._roster = roster

    @property
    def roster(self):
        """The Members who may be in arguments."""
        return self._roster

    def __call__(self, call, argument=None):
        """The same as do."""
        return self.do(call, argument)

    def do(self, call, argument=None):
        """Do a deed for names on the roster; the changes of the views."""
        return super().do(call, argument)

    def can(self, call, argument=None):
        """Whether the deed for names on the roster would be done now, if the keeper is not busy."""
        return super().can(call, argument)

    def _check_deed(self, call, argument):
        """Refuse strangers, too."""
        super()._check_deed(call, argument)
        for name in names_of(argument):
            if name not in self._roster:
                raise Stranger(name)


class Entered:
    """What a keeper was like when the block of a trial was entered; outer is that of the block around it, or None."""

    def __init__(self, keeper, outer):
        self.now = keeper._now
        self.past = keeper._past
        self.facts_then = keeper._facts
        self.outer = outer


class Hall:
    """Keepers by names."""

    def __init__(self):
        self._keepers = {}
        self._names = ()

    @property
    def names(self):
        """The ascending tuple of the names."""
        return self._names

    def __setitem__(self, at, worth):
        """Give this name to a new keeper of the design."""
        if not is_name(at):
            raise InvalidName(at)
        keeper = Keeper(worth)
        self._keepers[at] = keeper
        self._names = tuple(sorted(set(list(self._keepers))))

    def __getitem__(self, at):
        """The keeper with this name."""
        if at not in self._names:
            raise UnknownKeeper("no keeper has this name")
        return self._keepers[at]

    def __contains__(self, value):
        return value in self._names

    def __len__(self):
        return len(self._names)

    def __iter__(self):
        return iter(self._names)

    def do_all(self, *deeds):
        """Do triples (name, call, argument), all or none."""
        check_deeds(deeds, 3)
        kept = [(keeper, keeper._now, keeper._past) for keeper in list(self._keepers.values())]
        at = 0
        try:
            for at, (name, call, argument) in enumerate(deeds):
                self[name].do(call, argument)
        except (SetError, StateError) as error:
            for keeper, now, past in kept:
                keeper._now = now
                keeper._past = past
            raise Stopped(at, error) from error


def attempt(keeper, act):
    """What the function gives for the keeper, which is behind it as before."""
    with keeper.trial() as same:
        return act(same)


def set_facts(keeper, facts):
    """Give a keeper these facts."""
    keeper.facts = facts


def put_keeper(hall, name, design):
    """Give the name in a hall to a new keeper of the design."""
    hall[name] = design


def get_keeper(hall, name):
    """The keeper in a hall with this name."""
    return hall[name]


def check_deeds(deeds, many):
    """Refuse deeds that are no tuples of so many elements."""
    for at, deed in enumerate(deeds):
        if not is_tuple_of(deed, many):
            raise InvalidDeeds(at)


def check_own_facts(facts, design):
    """Refuse what is not a tuple of Facts of the fields of a design."""
    if not isinstance(facts, tuple):
        raise InvalidFacts(None)
    for at, fact in enumerate(facts):
        if not isinstance(fact, Fact) or fact.has_given:
            raise InvalidFacts(at)
        if not all([field in design.fields for field in fact.fields]):
            raise InvalidFacts(at)


def names_of(argument):
    """The names in an argument that is valid, ascending."""
    if argument is None:
        return ()
    return (argument,) if isinstance(argument, str) else argument.names
