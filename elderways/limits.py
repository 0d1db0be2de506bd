"""The limits that the program itself sets."""

MAX_LISTED = 600
