"""Promises about the checker: exactly those claims are accepted whose certificates show them (point 2)."""

import random

from onemember.checker import holds
from onemember.samples import sample_design
from tests.helper import CloseCase, nested, own_objects, plain_values
from tests.plain import great_design
from tests.plain_checker import CLAIMS, plain_holds
from tests.plain_truth import is_true
from tests.spoiling import certified, designs, spoilt

TEXT = str(sample_design())


class AnyClaimsTest(CloseCase):

    def test_claims_of_the_program_are_accepted_and_true(self):
        chance = random.Random(170)
        counts = dict.fromkeys(CLAIMS, 0)
        for design in designs(chance, 30):
            for claim, paper in certified(chance, design):
                self.same(holds(claim, paper), True)
                self.same(holds(certificate=paper, claim=claim), True)
                self.assertIs(plain_holds(claim, paper), True)
                self.assertIs(is_true(claim), True)
                counts[claim[0]] += 1
        self.assertGreater(min(counts.values()), 4, counts)

    def test_spoilt_ones(self):
        chance = random.Random(171)
        counts = {}
        for design in designs(chance, 12):
            for claim, paper in certified(chance, design):
                for _ in range(30):
                    one, other = (spoilt(chance, claim), paper) if chance.random() < 0.35 else (claim, spoilt(chance, paper))
                    found = holds(one, other)
                    self.same(found, plain_holds(one, other))
                    if found:
                        self.assertIs(is_true(one), True)
                    counts[claim[0], found] = counts.get((claim[0], found), 0) + 1
        self.assertGreater(min(counts[word, False] for word in CLAIMS), 30, counts)
        self.assertGreater(len([1 for word in CLAIMS if counts.get((word, True))]), 18, counts)

    def test_spoilt_twice(self):
        chance = random.Random(172)
        for design in designs(chance, 6):
            for claim, paper in certified(chance, design):
                for _ in range(10):
                    one, other = spoilt(chance, claim) if chance.random() < 0.5 else claim, spoilt(chance, spoilt(chance, paper))
                    self.same(holds(one, other), plain_holds(one, other))

    def test_certificates_of_other_claims(self):
        chance = random.Random(173)
        accepted = 0
        for design in designs(chance, 8):
            pairs = certified(chance, design)
            for claim, paper in pairs:
                self.assertIs(holds(claim, paper[::-1]) if claim[0] in ("always", "been", "alike") else True, True)
                for other, _ in chance.sample(pairs, 6):
                    found = holds(other, paper)
                    self.same(found, plain_holds(other, paper))
                    accepted += found
                    word = other[0][4:] if other[0].startswith("not ") else "not " + other[0]
                    self.assertIs(holds((word, *other[1:]), paper), plain_holds((word, *other[1:]), paper))
        self.assertGreater(accepted, 50)

    def test_no_claims(self):
        chance = random.Random(174)
        pairs = certified(chance, sample_design())
        for value in plain_values() + own_objects() + [("always",), ("always", TEXT), (TEXT,), (None,) * 4, (("always",), TEXT, None, None)]:
            for claim, paper in pairs:
                self.same(holds(value, paper), False)
                self.same(holds(claim, value), plain_holds(claim, value))
                at = chance.randrange(len(claim))
                changed = claim[:at] + (value,) + claim[at + 1:]
                self.same(holds(changed, paper), plain_holds(changed, paper))
            self.same(holds(value, value), False)

    def test_values_that_hold_the_same_ones_again_and_again(self):
        chance = random.Random(176)
        for claim, paper in certified(chance, sample_design()):
            for wrap in (lambda one: (one, one), lambda one: ("|", one, one), lambda one: [one, one], lambda one: {"a": one, "b": one}):
                # As large as can be passed, and never the same one twice, so that comparing any two would not end.
                one, other = nested(28, wrap, "x"), nested(28, wrap, "x")
                for at in range(len(claim)):
                    self.same(holds(claim[:at] + (one,) + claim[at + 1:], paper), False)
                for wrong in (one, (one, other), (paper, one, other), paper[:1] + (one, other), paper[:-1] + (one,)):
                    self.same(holds(claim, wrong), False)

    def test_the_greatest_designs(self):
        chance = random.Random(175)
        design = great_design(chance)
        for claim, paper in certified(chance, design):
            self.same(holds(claim, paper), True)
            self.same(holds(claim, paper[1:]) and claim[0] not in ("not always",), False)
