"""The limits that the document names."""

LATEST = 1000000000
LAST_REGISTER = 7
MOST_BOUNDS = 64
MOST_BYTES = 1000
