"""Claims with their certificates, and the same with something spoilt in them."""

from onemember.certificates import (
    certify_alike, certify_always, certify_apart, certify_been, certify_bounded, certify_comes, certify_commute, certify_derived,
    certify_fields, certify_loop, certify_stands_in, certify_stays,
)
from onemember.designs import Design
from onemember.expressions import Expression, Fact
from onemember.samples import sample_design
from tests.helper import balanced, chain, chain_text
from tests.plain import form_without_given, lively_designs
from tests.test_loops import granting_twin, with_twin

DEEP = chain_text(1000)


def any_expression(chance, design):
    return Expression(form_without_given(chance, design.fields))


def pairs_of(chance, design):
    """Designs that can be compared with a design, among them the same one with other names, and one that differs."""
    names = dict(zip(design.fields, ("f", "g", "h", "i")))
    found = [design, Design(design.fields, design.modes, design.calls[::-1], design.views).renamed(tuple(names.items()))]
    for name, sort, cases in design.calls:
        if cases:
            mode, facts, updates, after = cases[0]
            found.append(design.with_call((name, sort, cases[1:])))
            found.append(design.with_call((name, sort, ((mode, facts, updates[1:], after),) + cases[1:])))
            if sort != "one":
                found.append(design.with_call((name, sort, ((mode, facts, updates, chance.choice(design.modes)),) + cases[1:])))
    return found


def certified(chance, design):
    """Pairs of a claim of the program about a design and its certificate, of as many kinds as there are by chance."""
    mode = chance.choice((None, *design.modes))
    one, other = any_expression(chance, design), any_expression(chance, design)
    second = chance.choice(pairs_of(chance, design))
    terms = tuple((any_expression(chance, design), chance.choice((-2, -1, 1, 2))) for _ in range(chance.randint(1, 4)))
    found = [
        certify_always(Fact(one, other), design, mode=mode), certify_apart(one, other, design, mode=mode),
        certify_always(Fact(one - other, one), design, mode=mode), certify_bounded(terms, design, mode=mode),
        certify_bounded(((one - other, 1), (one, -1)), design), certify_been(one, other, design), certify_been(one & other, other, design),
        certify_stays(one, design), certify_comes(one, other, design), certify_alike(design, second), certify_alike(second, design),
        certify_stands_in(design, second), certify_stands_in(second, design), certify_fields(design),
    ]
    names = {sort: [name for name in design.names if design.sort_of(name) == sort] for sort in ("one", "many")}
    if design.names:
        found.append(certify_commute(design, chance.choice(design.names), chance.choice(design.names)))
    if all(names.values()):
        found.append(certify_loop(design, names["one"][0], names["many"][0], rule=chance.choice(("skip", "whole", "stop"))))
    twin = chance.choice((with_twin, granting_twin))(chance, design)
    found.append(certify_loop(twin, "one", "many", rule=chance.choice(("skip", "whole", "stop"))))
    found.extend(certify_derived(design, field) for field in design.fields)
    return [pair for pair in found if pair is not None]


def designs(chance, many):
    """The sample, a design with a loop that is the same as a call, one with a derived field, and some by chance."""
    facts, updates = ((("&", "given", "off"), "none"),), (("on", ("|", "on", "given")),)
    loop = Design(("on", "off"), ("m",), (
        ("add", "one", (("m", facts, updates, "m"),)), ("all", "many", (("m", facts, updates, "m"),)),
        ("bar", "one", (("m", (), (("off", ("|", "off", "given")),), "m"),)),
    ), ())
    twins = (("a", ("|", "a", "given")), ("b", ("|", "a", "given")))
    twin = Design(("a", "b"), ("m", "n"), (("come", "one", (("m", (), twins, "m"),)), ("go", "none", (("m", (), (), "n"),))), (("v", ("a", "b")),))
    some = lively_designs(chance, many, fields=2, modes=2, free=0.4) + lively_designs(chance, many, views=1)
    return [sample_design(), loop, twin] + [design for design in some if len(design.modes) < 3]


def spoilt(chance, value):
    """A value that is much like another one, with one thing in it, anywhere, that is not."""
    if isinstance(value, tuple) and value and chance.random() < 0.75:
        at = chance.randrange(len(value))
        return value[:at] + (spoilt(chance, value[at]),) + value[at + 1:]
    if isinstance(value, tuple):
        return chance.choice(spoilt_tuples(chance, value))
    if isinstance(value, str):
        return chance.choice(spoilt_texts(chance, value))
    if isinstance(value, bool):
        return chance.choice((not value, int(value), None, str(value)))
    if isinstance(value, int):
        return chance.choice((value + 1, value - 1, -value, 10 ** 39, True, False, str(value), None, (value,)))
    return chance.choice((0, False, "", "none", "x", (), ("x",), "day", "m", "mode"))


def spoilt_tuples(chance, value):
    """What is no such tuple any more, or has other elements, fewer, more or the same ones in another order."""
    at = chance.randint(0, len(value))
    found = [list(value), value + (None,), (value,), None, "".join(str(one) for one in value)[:50], value[::-1], value[1:], value[:-1]]
    found += [value[:at] + value[at + 1:], value[:at] + value[at:at + 1] * 2 + value[at + 1:], value[:at] + ((),) + value[at:]]
    found += [value + ("x",), value + ("zed",), tuple(chance.sample(value, len(value))), value + value, value + (value,), ()]
    return found


def spoilt_texts(chance, text):
    """Other texts, among them such of what is much the same, or too great."""
    words = text.replace("\n", " ").split(" ")
    found = [text + " ", " " + text, text.upper(), text[:-1], text[1:], "", "x", "y", "zed", None, 0, True, (text,), text.encode()[:100]]
    found += [f"({text})", text.replace(" ", "  "), text.replace("\n", "\n\n"), text + "\n", text + " <= none", "not " + text, text[4:]]
    found += [DEEP, f"{DEEP} <= none", f"none <= {DEEP}", text_of(chain(21)), text_of(balanced(201)), f"none <= {text_of(chain(20))}"]
    found += [text.replace(chance.choice(words), chance.choice(words)), "given", "none", "none <= given", "mode", "view", "deed", "skip", "whole"]
    if "\n" in text:
        lines = text.split("\n")
        at = chance.randrange(len(lines))
        found += ["\n".join(lines[:at] + lines[at + 1:]), "\n".join(lines[:at] + [lines[at]] + lines[at:]), "\n".join(chance.sample(lines, len(lines)))]
        found += ["\n".join(lines[:at] + [chance.choice(lines)] + lines[at + 1:]), text.replace("none", DEEP), text + f"\nview deep\nshow {DEEP}"]
    return found


def text_of(form):
    """The text of a form of any size."""
    def side(form):
        return form if isinstance(form, str) else f"({text_of(form)})"

    return form if isinstance(form, str) else f"{side(form[1])} {form[0]} {side(form[2])}"
