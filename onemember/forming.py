"""Forms built from who is in them, where somebody is told by a place as in leaf_bits of the file steps.

A product is a pair of numbers (mask, value): it is met by the places that have the bits of the value within the mask.
"""

from onemember.forms import GIVEN, NONE


def form_telling(fields, inside, outside):
    """A form with everybody at the places inside, and nobody at those outside; what others are is left open.

    Whoever is in no field and not given, at place 0, is in no form: so this place counts as one outside.
    """
    leaves = (GIVEN, *fields)
    products = []
    left = list(inside)
    while left:
        product = widest(left[0], (0, *outside), len(leaves))
        products.append(product_form(product, leaves))
        left = [place for place in left if not is_met(product, place)]
    return joined_forms("|", products)


def is_met(product, place):
    """Whether a place meets a product."""
    mask, value = product
    return (place & mask) == value


def widest(place, outside, bits):
    """A product that this place meets and none outside, in which no bit of the mask can be spared."""
    mask = (1 << bits) - 1
    for at in range(bits):
        less = mask - (1 << at)
        if not any([is_met((less, place & less), other) for other in outside]):
            mask = less
    return (mask, place & mask)


def product_form(product, leaves):
    """The form of a product: who is in the leaves of its value, and in none of the other ones of its mask."""
    mask, value = product
    there = [leaf for at, leaf in enumerate(leaves) if (value >> at) & 1]
    away = [leaf for at, leaf in enumerate(leaves) if ((mask - value) >> at) & 1]
    form = joined_forms("&", there)
    return ("-", form, joined_forms("|", away)) if away else form


def joined_forms(sign, forms):
    """One form of several with the sign between them, in as few levels as it can be; none of no forms."""
    if not forms:
        return NONE
    if len(forms) == 1:
        return forms[0]
    half = len(forms) // 2
    return (sign, joined_forms(sign, forms[:half]), joined_forms(sign, forms[half:]))
