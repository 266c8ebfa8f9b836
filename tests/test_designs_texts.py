"""Promises about texts of designs (point 9, onemember/designs.py): each one is read as its design, no other one is."""

import random

from onemember.designs import Design
from onemember.errors import InvalidText
from onemember.samples import sample_design
from tests.helper import CloseCase, balanced, chain, chain_text, strange_values
from tests.plain import any_design, great_design

SMALL = Design(
    ("a", "b"), ("m", "n"),
    (("c", "one", (("m", (("given", ("|", "a", "b")),), (("a", ("-", ("|", "a", "b"), "given")),), "m"),)), ("d", "none", ())),
    (("v", ("a", ("^", "a", "none"))),),
)
SMALL_TEXT = """fields a b
modes m n
call c one
case m m
fact given <= a | b
set a = (a | b) - given
call d none
view v
show a
show a ^ none"""


class ReadingTest(CloseCase):

    def test_the_text(self):
        self.same(str(SMALL), SMALL_TEXT)
        found = Design.read(SMALL_TEXT)
        self.assertIs(found.__class__, Design)
        self.assertEqual(found, SMALL)
        self.assertEqual(Design.read(text=SMALL_TEXT), SMALL)

    def test_all_in_the_order_of_the_tuples(self):
        cases = (("n", (("b", "a"), ("a", "b")), (("b", "none"), ("a", "b")), "m"), ("m", (), (), "m"))
        design = Design(("b", "a"), ("n", "m"), (("z", "many", cases), ("c", "none", ())), (("w", ("b", "a")), ("v", ("a", "b"))))
        self.assertEqual(str(design), "\n".join([
            "fields b a", "modes n m", "call z many", "case n m", "fact b <= a", "fact a <= b", "set b = none", "set a = b",
            "case m m", "call c none", "view w", "show b", "show a", "view v", "show a", "show b",
        ]))
        self.assertEqual(Design.read(str(design)), design)

    def test_any_designs(self):
        chance = random.Random(20)
        texts = {}
        for _ in range(300):
            design = any_design(chance)
            self.assertEqual(Design.read(str(design)), design)
            self.assertEqual(texts.setdefault(str(design), design), design)

    def test_the_greatest_designs(self):
        for seed in range(3):
            design = great_design(random.Random(seed))
            self.assertGreater(len(str(design)), 8000)
            self.assertEqual(Design.read(str(design)), design)

    def test_the_same_text_only_for_equal_designs(self):
        parts = [
            [("a", "b"), ("b", "a"), ("a",)],
            [("m", "n"), ("n", "m")],
            [(), (("c", "one", ()),), (("c", "many", ()),), (("c", "one", (("m", (), (), "m"),)),),
             (("c", "one", (("m", (("a", "a"),), (), "m"),)),), (("c", "one", (("m", (), (("a", "a"),), "m"),)),),
             (("c", "one", ()), ("d", "one", ())), (("d", "one", ()), ("c", "one", ()))],
            [(), (("v", ("a", "none")),), (("v", ("none", "a")),), (("w", ("a", "none")),)],
        ]
        designs = [Design(*part) for part in
                   [(one, two, three, four) for one in parts[0] for two in parts[1] for three in parts[2] for four in parts[3]]]
        texts = {}
        for design in designs:
            texts.setdefault(str(design), []).append(design)
        self.assertEqual({len(same) for same in texts.values()}, {1})

    def test_leaves_and_levels(self):
        for form in (balanced(200), chain(20)):
            design = Design(("a", "b"), ("m",), (), (("v", (form,)),))
            self.assertEqual(Design.read(str(design)), design)


class NoTextsTest(CloseCase):

    def wrong(self, *texts):
        for text in texts:
            self.refused(InvalidText, {"value": text}, Design.read, text)

    def test_other_values(self):
        self.wrong(*strange_values())
        self.wrong("fields", "fields a", "modes m", "modes m\nfields a", "fields a\nmodes", "fields\nmodes m", "fields \nmodes m")

    def test_the_least_text(self):
        self.assertEqual(Design.read("fields a\nmodes m"), Design(("a",), ("m",), (), ()))
        self.wrong("fields a\nmodes m\n", "\nfields a\nmodes m", "fields a\n\nmodes m", "fields a \nmodes m", "fields a\nmodes m ")

    def test_lines_left_out_doubled_and_exchanged(self):
        for design in (SMALL, sample_design()):
            lines = str(design).split("\n")
            for at in range(len(lines)):
                self.not_this(design, lines[:at] + lines[at + 1:])
                self.not_this(design, lines[:at + 1] + lines[at:])
                self.not_this(design, lines[:at] + [""] + lines[at:])
                for other in range(at):
                    moved = list(lines)
                    moved[at], moved[other] = moved[other], moved[at]
                    self.not_this(design, moved)
        self.wrong(*[
            SMALL_TEXT.replace(line + "\n", "") for line in
            ("fields a b", "modes m n", "call c one", "case m m", "view v", "show a", "modes m n\ncall c one")
        ])
        self.wrong(SMALL_TEXT.replace("\nview v", "\nview v\nview v"), SMALL_TEXT + "\nshow a", SMALL_TEXT + "\nview v")
        self.wrong(SMALL_TEXT.replace("fact given <= a | b\nset a = (a | b) - given", "set a = (a | b) - given\nfact given <= a | b"))

    def not_this(self, design, lines):
        """These lines are no text, or that of another design, which has just this text."""
        text = "\n".join(lines)
        if text == str(design):
            return
        try:
            found = Design.read(text)
        except InvalidText as error:
            self.assertIs(error.value, text)
        else:
            self.assertEqual(str(found), text)
            self.assertNotEqual(found, design)

    def test_views_ahead_of_calls(self):
        self.wrong("fields a\nmodes m\nview v\nshow a\ncall c one")
        self.assertEqual(len(Design.read("fields a\nmodes m\ncall c one\nview v\nshow a")), 1)
        self.wrong("fields a\nmodes m\nset a = a", "fields a\nmodes m\ncase m m", "fields a\nmodes m\nfact a <= a")
        self.wrong("fields a\nmodes m\nshow a", "fields a\nmodes m\ncall c one\nfact a <= a", "fields a\nmodes m\ncall c one\nset a = a")
        self.wrong("fields a\nmodes m\ncall c none\nview v\ncase m m\nshow a", "fields a\nmodes m\ncall c none\nview v\nshow a\ncase m m")

    def test_changed_words(self):
        lines = SMALL_TEXT.split("\n")
        for at, line in enumerate(lines):
            words = line.split(" ")
            for place, word in enumerate(words):
                for other in ("zed", "Fields", word + "s", word[:-1], word.upper(), "fields", "ninechars", "a-b", "\t"):
                    changed = words[:place] + [other] + words[place + 1:]
                    self.not_this(SMALL, lines[:at] + [" ".join(changed)] + lines[at + 1:])
        self.wrong(
            SMALL_TEXT.replace("fields", "field"), SMALL_TEXT.replace("modes", "mode"), SMALL_TEXT.replace("call", "calls"),
            SMALL_TEXT.replace("case", "cases"), SMALL_TEXT.replace("fact", "facts"), SMALL_TEXT.replace("set", "sets"),
            SMALL_TEXT.replace("view", "views"), SMALL_TEXT.replace("show", "shows"), SMALL_TEXT.replace("<=", "<"),
            SMALL_TEXT.replace(" = ", " == "), SMALL_TEXT.replace("one", "two"), SMALL_TEXT.replace("set a", "set c"),
            SMALL_TEXT.replace("case m m", "case m n"), SMALL_TEXT.replace("case m m", "case o o"), SMALL_TEXT.upper(),
            SMALL_TEXT.replace("given", "gave"), SMALL_TEXT.replace("c one", "c none"), SMALL_TEXT.replace("a ^ none", "a ^ given"),
            SMALL_TEXT.replace("a ^ none", "a + none"), SMALL_TEXT.replace("<= a", "<= c"), SMALL_TEXT.replace("set a", "set a b"),
            SMALL_TEXT.replace("case m m", "case m"), SMALL_TEXT.replace("case m m", "case m m m"), SMALL_TEXT.replace("view v", "view"),
            SMALL_TEXT.replace("call c one", "call c"), SMALL_TEXT.replace("call c one", "call one"), SMALL_TEXT.replace("view v", "view v w"),
            SMALL_TEXT.replace("call c one", "call c one one"), SMALL_TEXT.replace("set a", "set given"), SMALL_TEXT.replace("a b", "a a"),
            SMALL_TEXT.replace("d none", "c none"), SMALL_TEXT.replace("a b", "a none"), SMALL_TEXT.replace("m n", "m m"),
        )

    def test_spaces(self):
        for at, sign in enumerate(SMALL_TEXT):
            self.wrong(SMALL_TEXT[:at] + " " + SMALL_TEXT[at:] if sign in " \n()" else SMALL_TEXT[:at] + "  " + SMALL_TEXT[at:])
            if sign == " ":
                self.not_this(SMALL, (SMALL_TEXT[:at] + SMALL_TEXT[at + 1:]).split("\n"))
                self.wrong(SMALL_TEXT[:at] + "\t" + SMALL_TEXT[at + 1:], SMALL_TEXT[:at] + "\n" + SMALL_TEXT[at + 1:])
            if sign == "\n":
                self.wrong(SMALL_TEXT[:at] + " " + SMALL_TEXT[at + 1:], SMALL_TEXT[:at] + "\r\n" + SMALL_TEXT[at + 1:])
        self.wrong(" " + SMALL_TEXT, SMALL_TEXT + " ", SMALL_TEXT + "\n", "\n" + SMALL_TEXT)

    def test_brackets(self):
        self.wrong(
            SMALL_TEXT.replace("(a | b) - given", "a | b - given"), SMALL_TEXT.replace("(a | b) - given", "((a | b) - given)"),
            SMALL_TEXT.replace("(a | b) - given", "((a | b)) - given"), SMALL_TEXT.replace("(a | b) - given", "(a | b) - (given)"),
            SMALL_TEXT.replace("show a", "show (a)"), SMALL_TEXT.replace("given <= a | b", "given <= (a | b)"),
            SMALL_TEXT.replace("given <= a | b", "(given) <= a | b"), SMALL_TEXT.replace("(a | b) - given", "(a | b - given"),
            SMALL_TEXT.replace("(a | b) - given", "a | b) - given"), SMALL_TEXT.replace("given <= a | b", "(given <= a) | b"),
            SMALL_TEXT.replace("given <= a | b", "given <= a <= b"), SMALL_TEXT.replace("given <= a | b", "given a | b"),
            SMALL_TEXT.replace("given <= a | b", "given <= "), SMALL_TEXT.replace("given <= a | b", " <= a | b"),
            SMALL_TEXT.replace("set a = (", "set = ("), SMALL_TEXT.replace("set a = (a | b) - given", "set a = "),
        )

    def test_too_many_leaves_and_levels(self):
        head = "fields a b\nmodes m\n"
        forms = [
            "a" + " | a" * 200, chain_text(20), chain_text(300), chain_text(4000),
            "(" * 300 + "a | b" + ")" * 300, "(" * 7000, ")" * 7000, "a | " * 1500 + "a",
            str_of(balanced(201)), str_of(chain(21)), str_of(("|", chain(20), "a")),
        ]
        for form in forms:
            self.wrong(head + "view v\nshow " + form)
            self.wrong(head + "call c many\ncase m m\nset a = " + form, head + "call c many\ncase m m\nfact a <= " + form)
            self.wrong(head + "call c many\ncase m m\nfact " + form + " <= a")

    def test_numbers_above_the_limits(self):
        head = "fields a b\nmodes m"
        self.wrong("fields a b c d e\nmodes m", "fields a\nmodes k l m n o", head + "".join(f"\ncall c{at} one" for at in range(9)))
        self.wrong(head + "".join(f"\nview v{at}\nshow a" for at in range(5)), head + "\ncall c one\ncase m m" + "\nfact a <= b" * 6)
        self.assertEqual(len(Design.read(head + "".join(f"\ncall c{at} one" for at in range(8)))), 8)
        self.assertEqual(len(Design.read(head + "\ncall c one\ncase m m" + "\nfact a <= b" * 5).calls[0][2][0][1]), 5)


def str_of(form):
    """The text of a form of any size."""
    if isinstance(form, str):
        return form
    return " ".join(side if isinstance(side, str) else f"({str_of(side)})" for side in (form[1], form[0], form[2]))
