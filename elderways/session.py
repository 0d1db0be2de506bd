"""A session: the text of a house, followed by commands for an editor of that house."""

from elderways.components import components
from elderways.editor import Editor
from elderways.errors import (
    EditorFull, InvalidCommand, InvalidText, NotOlder, PassageFixed, PassageNotFixed, ShapeMismatch,
    UnknownPassage, WrongRoom,
)
from elderways.houses import DIRECTIONS
from elderways.reachability import is_reachable
from elderways.redundancy import redundant_passages
from elderways.slides import SIDES
from elderways.texts import format_passage, parse_house, read_number, read_permutation, read_room

# The kinds of the words behind the name of a command, except for `target`.
KINDS = {
    "slide": ("number", "side", "number", "direction"),
    "add": ("room", "room", "permutation"),
    "remove": ("number",),
    "fix": ("number",),
    "release": ("number",),
    "undo": (),
    "house": (),
    "fixed": (),
    "count": (),
    "positions": ("number",),
    "redundant": (),
    "components": (),
}


def spaced(values):
    """Return values separated by single spaces, or the sign of an empty answer."""
    return " ".join([str(value) for value in values]) or "-"


def parted(parts):
    """Return texts separated by semicolons, or the sign of an empty answer."""
    return " ; ".join(parts) or "-"


def answer_slide(editor, values):
    """Slide and answer the rooms of both ends."""
    index, side, older, direction = values
    return spaced(editor.slide(index, side, older, direction))


def answer_add(editor, values):
    """Add a passage."""
    editor.add(tuple(values))
    return "ok"


def answer_remove(editor, values):
    """Remove a passage."""
    editor.remove(values[0])
    return "ok"


def answer_fix(editor, values):
    """Fix a passage."""
    editor.fix(values[0])
    return "ok"


def answer_release(editor, values):
    """Release a passage."""
    editor.release(values[0])
    return "ok"


def answer_undo(editor, _):
    """Undo and answer whether there was something to undo."""
    return "yes" if editor.undo() else "no"


def answer_house(editor, _):
    """Answer the passages."""
    return parted([format_passage(passage) for passage in editor.house()[2]])


def answer_fixed(editor, _):
    """Answer the indices of the fixed passages."""
    return spaced(editor.fixed())


def answer_count(editor, _):
    """Answer the number of reachable houses."""
    return str(editor.reachable_count())


def answer_positions(editor, values):
    """Answer the number of a passage's positions."""
    return str(len(editor.positions(values[0])))


def answer_redundant(editor, _):
    """Answer the indices of the redundant passages."""
    return spaced(redundant_passages(editor.house()))


def answer_components(editor, _):
    """Answer the components of all passages."""
    house = editor.house()
    return parted([spaced(rooms) for rooms in components(house, len(house[2]))])


def answer_target(editor, values):
    """Answer whether the house can become the one with these passages."""
    house = editor.house()
    passages = [values[first:first + 3] for first in range(0, len(values), 3)]
    if is_reachable(house, (house[0], house[1], passages), editor.fixed()):
        return "reachable"
    return "unreachable"


ACTIONS = {
    "slide": answer_slide,
    "add": answer_add,
    "remove": answer_remove,
    "fix": answer_fix,
    "release": answer_release,
    "undo": answer_undo,
    "house": answer_house,
    "fixed": answer_fixed,
    "count": answer_count,
    "positions": answer_positions,
    "redundant": answer_redundant,
    "components": answer_components,
    "target": answer_target,
}


def answer(editor, name, values):
    """Execute a command and return its answer."""
    action = ACTIONS[name]
    try:
        return action(editor, values)
    except UnknownPassage:
        return "error UnknownPassage"
    except NotOlder:
        return "error NotOlder"
    except WrongRoom:
        return "error WrongRoom"
    except PassageFixed:
        return "error PassageFixed"
    except PassageNotFixed:
        return "error PassageNotFixed"
    except EditorFull:
        return "error EditorFull"
    except ShapeMismatch:
        return "error ShapeMismatch"


def read_word(house, kind, word):
    """Return the value of a word of a command, or None if it is not of that kind."""
    if kind == "number":
        return read_number(word)
    if kind == "room":
        return read_room(house[0], word)
    if kind == "permutation":
        return read_permutation(house[1], word)
    allowed = SIDES if kind == "side" else DIRECTIONS
    return word if word in allowed else None


def read_command(house, line):
    """Return the pair (name, values) of a command, or None if the line is not a valid one."""
    name, *words = line.split(" ")
    if name == "target":
        # Each of its passages is written as the one of `add`.
        kinds = KINDS["add"] * (len(words) // 3)
    else:
        kinds = KINDS.get(name)
    if kinds is None or len(kinds) != len(words):
        return None
    values = [read_word(house, kind, word) for kind, word in zip(kinds, words)]
    if None in values:
        return None
    return name, values


def house_end(lines):
    """Return the index of the first line that is not part of the house."""
    end = 1
    while end < len(lines) and read_number(lines[end].split(" ")[0]) is not None:
        end += 1
    return end


def read_house(lines):
    """Return the house of the lines at the beginning of a session."""
    try:
        return parse_house("\n".join(lines))
    except InvalidText as error:
        raise InvalidCommand(error.line) from None


def run(text):
    """Return the answers to the commands of a session."""
    lines = text.split("\n")
    begin = house_end(lines)
    house = read_house(lines[:begin])
    commands = []
    for place in range(begin, len(lines)):
        command = read_command(house, lines[place])
        if command is None:
            raise InvalidCommand(place)
        commands.append(command)
    editor = Editor(house)
    return [answer(editor, name, values) for name, values in commands]
