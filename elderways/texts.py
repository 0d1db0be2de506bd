"""The text of a house: one line for its numbers, and one line for each passage."""

from elderways.errors import InvalidText
from elderways.limits import MAX_PASSAGES, MAX_ROOMS, MAX_SIZE
from elderways.permutations import is_permutation

DIGITS = "0123456789"


def format_passage(passage):
    """Return the text of a passage."""
    start, end, permutation = passage
    items = "".join([str(item) for item in permutation])
    return f"{start} {end} {items}"


def format_house(house):
    """Return the text of a house."""
    rooms, size, passages = house
    lines = [f"house {rooms} {size}"]
    lines.extend([format_passage(passage) for passage in passages])
    return "\n".join(lines)


def read_number(word):
    """Return the number that a word writes, or None if it writes none."""
    if word == "" or (word[0] == "0" and word != "0"):
        return None
    number = 0
    # int(..) would take other digits and signs as well, and it refuses very long words.
    for sign in word:
        if sign not in DIGITS:
            return None
        number = number * 10 + DIGITS.index(sign)
    return number


def read_room(rooms, word):
    """Return the room that a word writes, or None if a house with these rooms does not have it."""
    room = read_number(word)
    if room is None or room >= rooms:
        return None
    return room


def read_permutation(size, word):
    """Return the permutation of this size that a word writes, or None if it writes none."""
    permutation = tuple([DIGITS.find(sign) for sign in word])
    if not is_permutation(size, permutation):
        return None
    return permutation


def read_sizes(line):
    """Return the pair (rooms, size) of the first line of a house, or None if it is not valid."""
    words = line.split(" ")
    if len(words) != 3 or words[0] != "house":
        return None
    rooms, size = read_number(words[1]), read_number(words[2])
    if rooms is None or size is None:
        return None
    if not 1 <= rooms <= MAX_ROOMS or not 1 <= size <= MAX_SIZE:
        return None
    return rooms, size


def read_passage(rooms, size, line):
    """Return the passage of a line, or None if it is not one that fits such a house."""
    words = line.split(" ")
    if len(words) != 3:
        return None
    passage = (read_room(rooms, words[0]), read_room(rooms, words[1]), read_permutation(size, words[2]))
    if None in passage:
        return None
    return passage


def parse_house(text):
    """Return the house with that text."""
    lines = text.split("\n")
    sizes = read_sizes(lines[0])
    if sizes is None:
        raise InvalidText(0)
    rooms, size = sizes
    passages = []
    for place in range(1, len(lines)):
        passage = read_passage(rooms, size, lines[place])
        if passage is None or place > MAX_PASSAGES:
            raise InvalidText(place)
        passages.append(passage)
    return rooms, size, tuple(passages)
