"""Answers to lines of text about a design and a keeper of it."""

from onemember.claims import read_fact
from onemember.deciding import breaking
from onemember.errors import InvalidText
from onemember.histories import for_keeper, history_text, is_history, read_history
from onemember.keepers import Keeper
from onemember.least import fewest
from onemember.reports import node_report, size_report, text_or_dash


class Console:
    """A keeper of a design that answers lines."""

    def __init__(self, design):
        self._keeper = Keeper(design)
        self._design = design

    def say(self, line):
        """The answer to a line."""
        answer = None
        if isinstance(line, str):
            word, space, rest = line.partition(" ")
            answer = self._told(word, rest) if space else self._asked(word)
        if answer is None:
            raise InvalidText(line)
        return answer

    def _asked(self, word):
        """The answer to a word alone, or None if it is none."""
        if word == "design":
            return str(self._design)
        if word == "nodes":
            return node_report(self._design)
        if word == "sizes":
            return size_report(self._keeper)
        if word == "mode":
            return self._keeper.mode
        if word == "fewest":
            return str(fewest(self._design))
        return self._undo() if word == "undo" else None

    def _told(self, word, rest):
        """The answer to a word with something behind it, or None if it is none."""
        if word == "do":
            return self._do(rest)
        if word == "show" and rest in self._design.view_names:
            return text_or_dash(self._keeper.shown(rest).names)
        if word == "field" and rest in self._design.fields:
            return text_or_dash(self._keeper.members(rest).names)
        return self._always(rest) if word == "always" else None

    def _undo(self):
        """The mode when the last deed is taken back."""
        if not self._keeper.log:
            return "nothing"
        self._keeper.undo()
        return self._keeper.mode

    def _do(self, text):
        """The mode behind the deeds of a history, all or none, or None if the text tells none."""
        try:
            history = read_history(text)
        except InvalidText:
            return None
        if not history or not is_history(self._design, history):
            return None
        for at, (call, argument) in enumerate(history):
            if not self._keeper.can(call, for_keeper(argument)):
                self._take_back(at)
                return f"refused {at}"
            self._keeper.do(call, for_keeper(argument))
        return self._keeper.mode

    def _take_back(self, many):
        """Undo so many deeds."""
        for _ in range(many):
            self._keeper.undo()

    def _always(self, text):
        """Whether the fact with this text holds for ever, or None if the text tells none."""
        fact = read_fact(text, self._design)
        if fact is None:
            return None
        way = breaking(fact, self._design)
        return "yes" if way is None else f"no {history_text(way)}"
