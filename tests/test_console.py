"""Promises about the console: the answers to lines, and lines that are none (points 4, 10, 11 and 13)."""

import random

from onemember.console import Console
from onemember.deciding import breaking
from onemember.designs import Design
from onemember.errors import InvalidText, NotADesign
from onemember.expressions import Fact
from onemember.histories import history_text, outcomes
from onemember.keepers import Keeper
from onemember.least import fewest
from onemember.reports import node_report, size_report
from onemember.samples import sample_design
from tests.helper import CloseCase, balanced, chain, chain_text, strange_values
from tests.plain import Plain, any_deed, deeds, form_without_given, great_design, lively_designs
from tests.spoiling import spoilt_texts, text_of
from tests.test_least import BARE

SAMPLE = sample_design()


def seen(console):
    """All that a console of the sample tells of its keeper."""
    return [console.say(line) for line in ("mode", "sizes", "show guests", "show awaited", "field invited", "field inside")]


class AnswersTest(CloseCase):

    def test_the_printed_ones(self):
        console = Console(SAMPLE)
        lines = ("do invite {ann bob}; enter ann", "show awaited", "do leave ann; enter cid", "field inside", "always inside <= invited", "undo", "fewest")
        self.same([console.say(line) for line in lines], ["day", "bob", "refused 1", "ann", "no invite {x}; enter x; close", "day", "2"])
        self.assertEqual(Console(design=SAMPLE).say(line="mode"), "day")

    def test_words_alone(self):
        console = Console(SAMPLE)
        self.same(console.say("design"), str(SAMPLE))
        self.same(console.say("nodes"), node_report(SAMPLE))
        self.same(console.say("sizes"), "invited: 0 0.0 percent\n inside: 0 0.0 percent")
        self.same(console.say("mode"), "day")
        self.same(console.say("fewest"), "2")
        self.same(console.say("undo"), "nothing")
        self.same(console.say("do invite {ann bob cid}; enter bob; close"), "night")
        self.same(console.say("mode"), "night")
        self.same(console.say("sizes"), "invited: 0 0.0 percent\n inside: 1 100.0 percent")
        self.same([console.say("undo") for _ in range(5)], ["day", "day", "day", "nothing", "nothing"])
        self.same(console.say("design"), str(SAMPLE))

    def test_members(self):
        console = Console(SAMPLE)
        self.same([console.say("field invited"), console.say("show guests"), console.say("show awaited")], ["-", "-", "-"])
        console.say("do invite {ann bob cid}; enter bob")
        self.same([console.say("field invited"), console.say("show guests"), console.say("show awaited")], ["ann bob cid", "bob", "ann cid"])

    def test_all_or_none(self):
        console = Console(SAMPLE)
        self.same(console.say("do begin"), "refused 0")
        console.say("do invite {ann}")
        before = seen(console)
        for line, due in (("do close; leave ann; begin; enter ann", "refused 3"), ("do enter ann; close; begin", "refused 2"),
                ("do leave zoe; leave ann; enter zoe", "refused 2"), ("do enter zoe", "refused 0")):
            self.same(console.say(line), due)
            self.assertEqual(seen(console), before)
        self.same([console.say("undo"), console.say("undo")], ["day", "nothing"])
        self.same(console.say("do invite {}"), "day")
        self.same([console.say("undo"), console.say("undo")], ["day", "nothing"])

    def test_always(self):
        console = Console(SAMPLE)
        console.say("do invite {ann}; enter ann; close")
        for line, due in (("always none <= none", "yes"), ("always inside & invited <= inside", "yes"), ("always invited <= inside", "no invite {x}"),
                ("always inside <= none", "no invite {x}; enter x")):
            self.same(console.say(line), due)
        self.same(console.say(f"always none <= {text_of(balanced(200)).replace('a', 'inside')}"), "yes")
        self.same(console.say(f"always none <= {text_of(chain(20)).replace('a', 'inside').replace('b', 'none')}"), "yes")

    def test_two_consoles_have_two_keepers(self):
        one, other = Console(SAMPLE), Console(SAMPLE)
        one.say("do close")
        self.assertEqual((one.say("mode"), other.say("mode")), ("night", "day"))

    def test_without_calls_or_views(self):
        console = Console(BARE)
        self.same([console.say(line) for line in ("fewest", "undo", "nodes", "field d", "always a <= none", "mode")], ["1", "nothing", "m  0 -", "-",
                "yes", "m"])

    def test_any_lines_beside_a_plain_keeper(self):
        chance = random.Random(210)
        told = {True: 0, False: 0}
        for design in lively_designs(chance, 30, views=1) + [great_design(chance)]:
            console, plain, past = Console(design), Plain(design), []
            for _ in range(15):
                history = tuple(any_deed(chance, design, ("ann", "bob", "x")) for _ in range(chance.randint(1, 4)))
                before = plain.copy()
                granted = []
                for deed in history:
                    granted.append(plain.copy())
                    if not plain.do(*deed):
                        self.same(console.say(f"do {history_text(history)}"), f"refused {len(granted) - 1}")
                        plain = before
                        break
                else:
                    past.extend(granted)
                    self.same(console.say(f"do {history_text(history)}"), plain.mode)
                told[plain is before] += 1
                if chance.random() < 0.2:
                    self.same(console.say("undo"), past[-1].mode if past else "nothing")
                    plain = past.pop() if past else plain
                self.check(chance, console, plain)
        self.assertGreater(min(told.values()), 50, told)

    def check(self, chance, console, plain):
        """All that the console tells, beside a plain keeper."""
        design = plain.design
        self.same(console.say("mode"), plain.mode)
        for field in design.fields:
            self.same(console.say(f"field {field}"), " ".join(sorted(plain.sets[field])) or "-")
        for view in design.view_names:
            self.same(console.say(f"show {view}"), " ".join(sorted(plain.view(view))) or "-")
        keeper = Keeper(design)
        self.assertEqual([line.split(": ")[0] for line in console.say("sizes").split("\n")], [line.split(": ")[0] for line in size_report(keeper).split("\n")])
        self.same((console.say("fewest"), console.say("nodes"), console.say("design")), (str(fewest(design)), node_report(design), str(design)))
        fact = Fact.read(f"{text_of(form_without_given(chance, design.fields))} <= {text_of(form_without_given(chance, design.fields))}")
        way = breaking(fact, design)
        self.same(console.say(f"always {fact}"), "yes" if way is None else f"no {history_text(way)}")


class NoLinesTest(CloseCase):

    def refuse(self, console, line):
        before = seen(console)
        self.refused(InvalidText, {"value": line}, console.say, line)
        self.assertEqual(seen(console), before)

    def test_no_design(self):
        for wrong in strange_values(Design) + [str(SAMPLE)]:
            self.refused(NotADesign, {"value": wrong}, Console, wrong)

    def test_lines_that_are_none(self):
        console = Console(SAMPLE)
        console.say("do invite {ann bob}; enter ann")
        for wrong in strange_values() + ["", " "]:
            self.refuse(console, wrong)
        for word in ("design", "nodes", "sizes", "mode", "fewest", "undo"):
            for line in (word + " ", " " + word, word.upper(), word + " x", word + "\n", word[:-1], word + " " + word, f"do {word}", f"show {word}",
                    f"field {word}", f"always {word}"):
                self.refuse(console, line)
        for line in ("do", "do ", "do  close", "do close ", " do close", "do close;", "do close;begin", "do close;  begin", "do close ; begin",
                "do closed", "do enter", "do enter {ann}",
                     "do invite ann", "do invite {bob ann}", "do invite {ann  bob}", "do invite { ann}", "do invite {ann", "do invite", "do close {}",
                     "do close x", "Do close", "do enter Ann",
                     "do enter ann; zed", "do zed; enter ann", "do enter ann\n", "do enter ann bob", "do invite {ann ann}", "do close; ",
                     "do ; close", "do enter ninechars", "close"):
            self.refuse(console, line)
        for line in ("show", "show ", "show inside", "show guests ", "show  guests", "show guests awaited", "Show guests", "show Guests", "guests",
                "field", "field ", "field guests", "field inside ", "field  inside", "field none", "field given", "field inside invited", "inside"):
            self.refuse(console, line)

    def test_facts_that_are_none(self):
        console = Console(SAMPLE)
        for text in ("", "inside", "inside <= ", "inside <= given", "given <= inside", "inside <= zed", "inside  <= invited", "(inside) <= invited",
                "inside <= invited ", "inside < invited", "inside <= invited <= inside",
                     f"none <= {text_of(balanced(201)).replace('a', 'inside')}",
                     f"{text_of(chain(21)).replace('a', 'none').replace('b', 'none')} <= none", f"none <= {chain_text(1000)}",
                     f"{chain_text(1000)} <= none", "(" * 4000):
            self.refuse(console, f"always {text}")
        self.refuse(console, "always")
        self.refuse(console, "Always none <= none")

    def test_spoilt_lines(self):
        chance = random.Random(211)
        console = Console(SAMPLE)
        console.say("do invite {ann bob}; enter ann")
        lines = ("do invite {ann bob}; enter ann", "show awaited", "field inside", "always inside <= invited", "undo", "mode")
        refused = 0
        for _ in range(400):
            line = chance.choice(spoilt_texts(chance, chance.choice(lines)))
            try:
                answer = console.say(line)
            except InvalidText as error:
                self.assertIs(error.value, line)
                refused += 1
            else:
                self.assertIs(answer.__class__, str)
                self.assertTrue(line.split(" ")[0] in ("do", "show", "field", "always", "undo", "mode"), line)
        self.assertGreater(refused, 200)

    def test_any_histories_that_are_refused_leave_the_log(self):
        chance = random.Random(212)
        for design in lively_designs(chance, 20):
            console = Console(design)
            for deed in deeds(design, ("x",)) * 3:
                history = (deed, any_deed(chance, design, ("x", "y")))
                granted = outcomes(design, (deed,)) == (True,)
                answer = console.say(f"do {history_text(history)}")
                if not answer.startswith("refused "):
                    console.say("undo")
                    console.say("undo")
                elif not granted:
                    self.same(answer, "refused 0")
                self.same((console.say("undo"), console.say("mode")), ("nothing", design.modes[0]))
