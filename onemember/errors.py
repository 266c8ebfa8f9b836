"""The errors of the program: each one belongs to its own class and to one base class, to no other."""


class SetError(ValueError):
    """Something that was passed is wrong."""


class StateError(LookupError):
    """What was asked for can not be done as things are."""


class LimitError(ArithmeticError):
    """Something is larger than the document allows."""


class NotMembers(SetError):
    """A value that should be Members."""

    def __init__(self, value):
        self.value = value


class NotAChange(SetError):
    """A value that should be a Change."""

    def __init__(self, value):
        self.value = value


class NotAnExpression(SetError):
    """A value that should be an Expression."""

    def __init__(self, value):
        self.value = value


class NotAFact(SetError):
    """A value that should be a Fact."""

    def __init__(self, value):
        self.value = value


class NotADesign(SetError):
    """A value that should be a Design."""

    def __init__(self, value):
        self.value = value


class NotAKeeper(SetError):
    """A value that should be a Keeper."""

    def __init__(self, value):
        self.value = value


class InvalidName(SetError):
    """A value that should be a name."""

    def __init__(self, value):
        self.value = value


class InvalidForm(SetError):
    """A value that should be the form of an expression."""

    def __init__(self, value):
        self.value = value


class InvalidText(SetError):
    """A value that should be the text of something."""

    def __init__(self, value):
        self.value = value


class InvalidArgument(SetError):
    """A value that is no argument here."""

    def __init__(self, value):
        self.value = value


class UnknownField(SetError):
    """A value that is no field here."""

    def __init__(self, value):
        self.value = value


class UnknownMode(SetError):
    """A value that is no mode here."""

    def __init__(self, value):
        self.value = value


class UnknownCall(SetError):
    """A value that is no call here."""

    def __init__(self, value):
        self.value = value


class UnknownView(SetError):
    """A value that is no view here."""

    def __init__(self, value):
        self.value = value


class UnknownRule(SetError):
    """A value that is no rule of a loop."""

    def __init__(self, value):
        self.value = value


class WrongSort(SetError):
    """A call of another sort than the one that is due."""

    def __init__(self, value):
        self.value = value


class InvalidNames(SetError):
    """Names that are not valid."""

    def __init__(self, index):
        self.index = index


class InvalidSets(SetError):
    """Pairs of a field and Members that are not valid."""

    def __init__(self, index):
        self.index = index


class InvalidFields(SetError):
    """Fields that are not valid."""

    def __init__(self, index):
        self.index = index


class InvalidModes(SetError):
    """Modes that are not valid."""

    def __init__(self, index):
        self.index = index


class InvalidCalls(SetError):
    """Calls that are not valid."""

    def __init__(self, index):
        self.index = index


class InvalidViews(SetError):
    """Views that are not valid."""

    def __init__(self, index):
        self.index = index


class InvalidTerms(SetError):
    """Terms that are not valid."""

    def __init__(self, index):
        self.index = index


class InvalidFacts(SetError):
    """Facts that are not valid."""

    def __init__(self, index):
        self.index = index


class InvalidPairs(SetError):
    """Pairs of names that are not valid."""

    def __init__(self, index):
        self.index = index


class InvalidHistory(SetError):
    """A history that is not valid."""

    def __init__(self, index):
        self.index = index


class InvalidDeeds(SetError):
    """Deeds that are not valid."""

    def __init__(self, index):
        self.index = index


class WrongMode(StateError):
    """The call has no case for the mode that was found."""

    def __init__(self, found):
        self.found = found


class Refused(StateError):
    """The fact of the case with this index does not hold."""

    def __init__(self, index):
        self.index = index


class Broken(StateError):
    """The fact of the keeper with this index would not hold."""

    def __init__(self, index):
        self.index = index


class Stranger(StateError):
    """This name is not on the roster."""

    def __init__(self, name):
        self.name = name


class Stopped(StateError):
    """The deed with this index raised an error, the reason."""

    def __init__(self, index, reason):
        self.index = index
        self.reason = reason


class UnknownKeeper(StateError):
    """No keeper has this name."""


class NotComparable(StateError):
    """The values do not go together."""


class NothingToUndo(StateError):
    """The log is empty."""


class Busy(StateError):
    """The keeper is in the middle of several deeds."""


class TooManyLeaves(LimitError):
    """More leaves than the limit."""

    def __init__(self, limit):
        self.limit = limit


class TooManyLevels(LimitError):
    """A greater depth than the limit."""

    def __init__(self, limit):
        self.limit = limit


class TooManyFields(LimitError):
    """More fields than the limit."""

    def __init__(self, limit):
        self.limit = limit


class TooManyCalls(LimitError):
    """More calls than the limit."""

    def __init__(self, limit):
        self.limit = limit


class TooManyViews(LimitError):
    """More views than the limit."""

    def __init__(self, limit):
        self.limit = limit


class TooManyFacts(LimitError):
    """More facts than the limit."""

    def __init__(self, limit):
        self.limit = limit
