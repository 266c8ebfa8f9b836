"""The design of the examples."""

from onemember.designs import Design

SAMPLE = """fields invited inside
modes day night
call invite many
case day day
set invited = invited | given
call enter one
case day day
fact given <= invited
set inside = inside | given
call leave one
case day day
set inside = inside - given
case night night
set inside = inside - given
call close none
case day night
set invited = none
call begin none
case night day
fact inside <= none
view guests
show inside
show inside
view awaited
show invited - inside
show none"""


def sample_design():
    """The design of the examples: who is invited, and who is inside."""
    return Design.read(SAMPLE)
