"""The limits that the program itself sets."""

MAX_LISTED = 600
MAX_PASSAGES = 12
MAX_ROOMS = 8
MAX_SIZE = 4
