"""The greatest numbers that the document allows."""

MOST_FIELDS = 4
MOST_MODES = 4
MOST_CALLS = 8
MOST_VIEWS = 4
MOST_FACTS = 5
MOST_TERMS = 4
MOST_LEAVES = 200
MOST_DEPTH = 20
