"""Which claims are true for sure, as their certificates show, no matter who wrote them."""

from onemember.claims import read_claim
from onemember.proofs import is_proved
from onemember.showing import is_shown


def holds(claim, certificate):
    """Whether a claim is one, and its certificate shows that it is true."""
    told = read_claim(claim)
    if told is None:
        return False
    word, design, parts = told
    return is_proved(word, design, parts, certificate) or is_shown(word, design, parts, certificate)
