"""Houses and other values for the tests, and a second reading of the document that uses no code of the package."""

import copy
import itertools
import random
import re

R = (1, 2, 0)
H = (3, 3, ((0, 1, (1, 2, 0)), (1, 2, (0, 1, 2))))
T = (3, 3, ((0, 1, (1, 2, 0)), (0, 2, (1, 2, 0))))
S = (1, "start", 0, "backward")
SIDES = ("start", "end")
DIRECTIONS = ("forward", "backward")
OPPOSITE = {"forward": "backward", "backward": "forward"}
NUMBERS = (0, 1, 2, 3, -1, -2, -12, 12, 10 ** 12, -10 ** 12)


# Houses

def random_permutation(chance, size):
    """Return a permutation of that size."""
    return tuple(chance.sample(range(size), size))


def random_passage(chance, rooms, size):
    """Return a passage that fits a house with these numbers."""
    return chance.randrange(rooms), chance.randrange(rooms), random_permutation(chance, size)


def random_house(chance, rooms, size, many):
    """Return a house with these numbers."""
    return rooms, size, tuple(random_passage(chance, rooms, size) for _ in range(many))


def random_houses(seed, many, most_rooms=4, most_size=3, most_passages=5):
    """Return houses of many shapes, always the same ones for the same arguments."""
    chance = random.Random(seed)
    found = []
    for _ in range(many):
        rooms, size = chance.randint(1, most_rooms), chance.randint(1, most_size)
        found.append(random_house(chance, rooms, size, chance.randint(0, most_passages)))
    return found


def full_houses(seed, many):
    """Return houses of the full size: 8 rooms, permutations of 4 items, 12 passages."""
    chance = random.Random(seed)
    return [random_house(chance, 8, 4, 12) for _ in range(many)]


def all_passages(rooms, size):
    """Return all passages that fit a house with these numbers, in ascending order."""
    every = itertools.permutations(range(size))
    return sorted(itertools.product(range(rooms), range(rooms), every))


def all_houses(rooms, size, many):
    """Return all houses with these numbers."""
    return [(rooms, size, passages) for passages in itertools.product(all_passages(rooms, size), repeat=many)]


def all_fixed(house):
    """Return every ascending tuple of the house's indices."""
    indices = range(len(house[2]))
    return [chosen for many in range(len(indices) + 1) for chosen in itertools.combinations(indices, many)]


def some_fixed(house):
    """Return some tuples of fixed passages: none, the oldest, the youngest, every second one, all."""
    many = len(house[2])
    return sorted({(), (0,)[:many], tuple(range(many))[-1:], tuple(range(1, many, 2)), tuple(range(many))})


def grid(rooms, fixed_loops=()):
    """Return a house in which the youngest passage reaches every pair of rooms, and the indices of all others.

    The loops are in room 0; the permutations that they generate are those of the youngest passage.
    """
    size = len(fixed_loops[0]) if fixed_loops else 1
    same = tuple(range(size))
    loops = tuple((0, 0, loop) for loop in fixed_loops)
    spokes = tuple((0, room, same) for room in range(1, rooms))
    return (rooms, size, loops + spokes + ((0, 0, same),)), tuple(range(len(loops) + len(spokes)))


# The document by hand

def then(first, second):
    """Move each item by first, and from there by second."""
    return tuple(second[first[item]] for item in range(len(first)))


def undoing(permutation):
    """Move each item to where the permutation takes it from."""
    return tuple(permutation.index(item) for item in range(len(permutation)))


def way(passage, direction):
    """Return (room where it begins, room where it leads, permutation) of a passage in a direction."""
    if direction == "forward":
        return passage
    return passage[1], passage[0], undoing(passage[2])


def step_ways(house, count):
    """Return the ways of all single steps through the oldest passages, with the steps."""
    steps = itertools.product(range(count), DIRECTIONS)
    return [(way(house[2][index], direction), (index, direction)) for index, direction in steps]


def least_steps(house, start, count):
    """Return the least number of steps to each (room, permutation) that walks from start reach."""
    ways = step_ways(house, count)
    known = {(start, tuple(range(house[1]))): 0}
    while True:
        new = {}
        for (room, permutation), many in known.items():
            for (begins, leads, effect), _ in ways:
                reached = (leads, then(permutation, effect))
                if begins == room and many + 1 < min(known.get(reached, 10 ** 6), new.get(reached, 10 ** 6)):
                    new[reached] = many + 1
        if not new:
            return known
        known.update(new)


def slid(house, slide):
    """Return the house after a slide with known indices, or None if the house does not allow it."""
    index, side, older, direction = slide
    start, end, permutation = house[2][index]
    begins, leads, effect = way(house[2][older], direction)
    if older >= index or begins != {"start": start, "end": end}[side]:
        return None
    if side == "end":
        passage = (start, leads, then(permutation, effect))
    else:
        passage = (leads, end, then(undoing(effect), permutation))
    passages = list(house[2])
    passages[index] = passage
    return house[0], house[1], tuple(passages)


def allowed_slides(house, fixed=()):
    """Return all slides that the house allows, none of a fixed passage."""
    indices = range(len(house[2]))
    every = itertools.product(indices, SIDES, indices, DIRECTIONS)
    return [slide for slide in every if slide[0] not in fixed and slid(house, slide)]


def least_slides(house, fixed=(), most=10 ** 6):
    """Return the least number of slides to each house that this one can become; None if there are too many."""
    known = {house: 0}
    level = [house]
    while level:
        found = []
        for here in level:
            for slide in allowed_slides(here, fixed):
                new = slid(here, slide)
                if new not in known:
                    known[new] = known[here] + 1
                    found.append(new)
            if len(known) > most:
                return None
        level = found
    return known


def reachable_by_hand(house, fixed=(), most=10 ** 6):
    """Return all houses that this one can become in the order of point 13; None if there are too many."""
    known = least_slides(house, fixed, most)
    return None if known is None else sorted(known, key=lambda found: found[2])


def moves_alone(house, index, passage):
    """Return what passage `index` can become by a single slide when it is this passage, with the slides."""
    older = list(house[2][:index])
    here = (house[0], house[1], (*older, passage))
    slides = itertools.product([index], SIDES, range(index), DIRECTIONS)
    return [(slid(here, slide)[2][index], slide) for slide in slides if slid(here, slide)]


def least_slides_alone(house, index):
    """Return the least number of slides of one passage alone to each of its positions."""
    known = {house[2][index]: 0}
    level = list(known)
    while level:
        found = []
        for here in level:
            for new, _ in moves_alone(house, index, here):
                if new not in known:
                    known[new] = known[here] + 1
                    found.append(new)
        level = found
    return known


def walked(house, room, walk):
    """Return (room, permutation) at the end of a walk, or None if a step is faulty."""
    permutation = tuple(range(house[1]))
    for index, direction in walk:
        if index not in range(len(house[2])):
            return None
        begins, leads, effect = way(house[2][index], direction)
        if begins != room:
            return None
        room, permutation = leads, then(permutation, effect)
    return room, permutation


def slid_by_all(house, slides, fixed=()):
    """Return the house after all slides, or None if one is not allowed or moves a fixed passage."""
    for slide in slides:
        indices = range(len(house[2]))
        if slide[0] not in indices or slide[2] not in indices or slide[0] in fixed:
            return None
        house = slid(house, slide)
        if house is None:
            return None
    return house


def is_integer(value):
    """Read point 2 word by word."""
    return type(value) is int


def is_permutation_by_hand(size, value):
    """Read point 4 word by word."""
    if type(value) is not tuple or not all(map(is_integer, value)) or size < 1:
        return False
    return len(value) == size and all(value.count(item) == 1 for item in range(size))


def is_passage_by_hand(rooms, size, value):
    """Read point 5 word by word: a passage that fits."""
    if type(value) is not tuple or len(value) != 3 or not all(map(is_integer, value[:2])):
        return False
    return value[0] in range(rooms) and value[1] in range(rooms) and is_permutation_by_hand(size, value[2])


def is_house_by_hand(value):
    """Read point 5 word by word."""
    if type(value) is not tuple or len(value) != 3 or not all(map(is_integer, value[:2])):
        return False
    rooms, size, passages = value
    if rooms < 1 or size < 1 or type(passages) is not tuple:
        return False
    return all(is_passage_by_hand(rooms, size, passage) for passage in passages)


def is_walk_by_hand(house, start, end, permutation, value):
    """Read point 5 word by word."""
    if type(value) is not list:
        return False
    for step in value:
        if type(step) is not tuple or [type(part) for part in step] != [int, str] or step[1] not in DIRECTIONS:
            return False
    return walked(house, start, value) == (end, permutation)


def is_slide_by_hand(house, value):
    """Read point 8 word by word."""
    if type(value) is not tuple or [type(part) for part in value] != [int, str, int, str]:
        return False
    index, side, older, direction = value
    indices = range(len(house[2]))
    if index not in indices or older not in indices or side not in SIDES or direction not in DIRECTIONS:
        return False
    return slid(house, value) is not None


def is_slide_path_by_hand(house, target, fixed, value):
    """Read point 11 word by word."""
    if type(value) is not list:
        return False
    for slide in value:
        if not is_slide_by_hand(house, slide) or slide[0] in fixed:
            return False
        house = slid(house, slide)
    return house == target


def is_ascending_by_hand(value, is_element):
    """Test whether value is an ascending list of such elements."""
    if type(value) is not list or not all(map(is_element, value)):
        return False
    return value == sorted(set(value))


def is_component_by_hand(house, target, index, side, rooms):
    """Read point 11 word by word: the part of a component that follows the index."""
    if side not in SIDES or not is_ascending_by_hand(rooms, lambda room: is_integer(room) and 0 <= room < house[0]):
        return False
    place = SIDES.index(side)
    if house[2][index][place] not in rooms or target[2][index][place] in rooms:
        return False
    return not [older for older in house[2][:index] if (older[0] in rooms) != (older[1] in rooms)]


def is_positions_by_hand(house, target, index, passages):
    """Read point 11 word by word: the part of positions that follows the index."""
    if not is_ascending_by_hand(passages, lambda passage: is_passage_by_hand(house[0], house[1], passage)):
        return False
    known = set(passages)
    if house[2][index] not in known or target[2][index] in known:
        return False
    return all(new in known for passage in passages for new, _ in moves_alone(house, index, passage))


def is_obstruction_by_hand(house, target, fixed, value):
    """Read point 11 word by word."""
    if type(value) is not tuple or [type(part) for part in value[:2]] != [str, int]:
        return False
    kind, index, rest = value[0], value[1], value[2:]
    if index not in range(len(house[2])):
        return False
    if kind == "fixed":
        return rest == () and index in fixed and house[2][index] != target[2][index]
    if kind == "component" and len(rest) == 2:
        return index not in fixed and is_component_by_hand(house, target, index, *rest)
    if kind == "positions" and len(rest) == 1:
        return index not in fixed and is_positions_by_hand(house, target, index, *rest)
    return False


def random_walk(chance, house, room, many):
    """Return a walk of that many steps from a room, or a shorter one where it cannot go on."""
    walk = []
    ways = step_ways(house, len(house[2]))
    for _ in range(many):
        onward = [(leads, step) for (begins, leads, _), step in ways if begins == room]
        if not onward:
            break
        room, step = chance.choice(onward)
        walk.append(step)
    return walk


def random_slides(chance, house, many, fixed=()):
    """Return that many slides in order and the house after them, or fewer where none is possible."""
    slides = []
    for _ in range(many):
        possible = allowed_slides(house, fixed)
        if not possible:
            break
        slides.append(chance.choice(possible))
        house = slid(house, slides[-1])
    return slides, house


# Values of other kinds and forms

def listed(value):
    """Return the value with lists in place of tuples."""
    return [listed(part) for part in value] if isinstance(value, (list, tuple)) else value


def tupled(value):
    """Return the value with tuples in place of lists."""
    return tuple(tupled(part) for part in value) if isinstance(value, (list, tuple)) else value


def mixed(value, turn=False):
    """Return the value with lists and tuples by turns."""
    if not isinstance(value, (list, tuple)):
        return value
    parts = [mixed(part, turn != (place % 2 == 0)) for place, part in enumerate(value)]
    return parts if turn else tuple(parts)


def nest(value, kinds):
    """Return the value inside lists ("l") and tuples ("t"), the outermost one first."""
    for kind in reversed(kinds):
        value = [value] if kind == "l" else (value,)
    return value


def junk():
    """Return values of every kind, nested up to eight levels deep, none of which means anything."""
    plain = [0, 1, 2, -1, 3, 10 ** 12, True, False, None, "", "0", "forward", "start", "fixed", "house", "a b"]
    found = plain + [(), [[]], ((),), ([],), [()], (None, None), ["forward"], ("forward",), (0, 1, 2), [0, 1, 2]]
    found += [tuple(plain), list(plain), (True, True, ()), (1, 1, None), (1, 1, 1), ("1", "1", ()), ("", "", "")]
    found += [(0, "start", 0), (0, 0, 0, 0), ("start",) * 4, [(0,)], [("forward",)], [(0, 1)], [("forward", 0)]]
    for kinds in ("llllllll", "tttttttt", "ltltltlt", "tltltltl", "ttll"):
        found += [nest(0, kinds), nest("x", kinds), nest(None, kinds), nest((), kinds[1:]), nest([], kinds[1:])]
    found.append(((((((((0, True), None), "a"), [1]), ()), -1), [False]), 2))
    return found


def replaced_parts(value, change):
    """Return the value once for each new part that change gives for a part of it, at any depth."""
    found = list(change(value))
    if isinstance(value, (list, tuple)):
        for place, part in enumerate(value):
            for new in replaced_parts(part, change):
                whole = list(value)
                whole[place] = new
                found.append(type(value)(whole))
    return found


def spoiled_part(part):
    """Return what can stand in no valid value in the place of this part."""
    found = [None, "x", (part,), [part]]
    if isinstance(part, int):
        found += [str(part), (), []]
        if part in (0, 1):
            found.append(bool(part))
    elif isinstance(part, str):
        found += [part.upper(), part + " ", " " + part, part[:-1], "", 0, True, (), []]
    else:
        other = list if isinstance(part, tuple) else tuple
        found += [other(part), 0, "", True]
        found += [part + type(part)([more]) for more in (None, True, "", (), [])]
    return found


def spoiled(value):
    """Return forms of a valid value that are not valid: other kinds and superfluous elements at any place."""
    return replaced_parts(value, spoiled_part)


def shortened_part(part):
    """Return the part with each of its elements left out."""
    if not isinstance(part, (list, tuple)):
        return []
    return [part[:place] + part[place + 1:] for place in range(len(part))]


def varied_part(part):
    """Return other values of the kind of this part, which may be valid."""
    if isinstance(part, str):
        return ["start", "end", "forward", "backward", "fixed", "component", "positions", "sideways"]
    if isinstance(part, int):
        return [part - 1, part + 1, -part, 0, 1, 2, 3, 10 ** 12]
    found = shortened_part(part) + [part[::-1], part + part, part + part[:1]]
    return found + [part[:place] + part[place:place + 1] + part[place:] for place in range(len(part))]


def varied(value):
    """Return other values of the form of this one, some valid and some not."""
    return replaced_parts(value, varied_part)


# Errors

def check_raised(test, error, fields, function, *arguments, **named):
    """Check that a call raises exactly this error with these fields."""
    with test.assertRaises(error) as caught:
        function(*arguments, **named)
    test.assertIs(type(caught.exception), error)
    test.assertEqual(vars(caught.exception), fields)


# The conventions of point 2

def lists_in(value):
    """Return all lists in a value, itself included."""
    if not isinstance(value, (list, tuple)):
        return []
    inner = [found for part in value for found in lists_in(part)]
    return inner + ([value] if isinstance(value, list) else [])


def holds_only(test, value, kinds):
    """Check that a result consists of values of exactly these kinds."""
    test.assertIn(type(value), kinds)
    if isinstance(value, (list, tuple)):
        for part in value:
            holds_only(test, part, kinds)


def check_conventions(test, function, **arguments):
    """Check forms of arguments, arguments by name, and that results are new and equal each time."""
    expected = function(*arguments.values())
    holds_only(test, expected, (int, bool, str, type(None), list, tuple))
    for form in (listed, tupled, mixed, lambda value: mixed(value, True), copy.deepcopy):
        given = {name: form(value) if name != "value" else copy.deepcopy(value) for name, value in arguments.items()}
        before = copy.deepcopy(given)
        by_name = function(**given)
        by_place = function(*given.values())
        backwards = function(**dict(reversed(given.items())))
        for result in (by_name, by_place, backwards):
            test.assertEqual(result, expected)
            test.assertIs(type(result), type(expected))
        test.assertEqual(given, before)
        lists = lists_in([expected, by_name, by_place, backwards]) + lists_in(list(given.values()))
        test.assertEqual(len({id(found) for found in lists}), len(lists))


# Texts

NUMBER = "(0|[1-9][0-9]*)"
HOUSE_LINE = re.compile(f"house {NUMBER} {NUMBER}")
PASSAGE_LINE = re.compile(f"{NUMBER} {NUMBER} ([0-9]+)")


def permutation_of_text(size, text):
    """Return the permutation that is written so, or None."""
    found = [
        permutation for permutation in itertools.permutations(range(size)) if "".join(map(str, permutation)) == text
    ]
    return found[0] if found else None


def passage_of_text(rooms, size, line):
    """Read point 20 word by word: the passage that is written so, or None."""
    match = PASSAGE_LINE.fullmatch(line)
    if not match or max(int(match[1]), int(match[2])) >= rooms or permutation_of_text(size, match[3]) is None:
        return None
    return int(match[1]), int(match[2]), permutation_of_text(size, match[3])


def house_of_text(text):
    """Read point 20 word by word: the house that is written so, or the index of the first wrong line."""
    first, *lines = text.split("\n")
    match = HOUSE_LINE.fullmatch(first)
    if not match or int(match[1]) not in range(1, 9) or int(match[2]) not in range(1, 5):
        return 0
    passages = []
    for place, line in enumerate(lines):
        passage = passage_of_text(int(match[1]), int(match[2]), line)
        if passage is None or place >= 12:
            return place + 1
        passages.append(passage)
    return int(match[1]), int(match[2]), tuple(passages)


def text_of_passage(passage):
    """Write a passage as point 20 says."""
    return " ".join([str(passage[0]), str(passage[1]), "".join(map(str, passage[2]))])


def text_of_house(house):
    """Write a house as point 20 says."""
    return "\n".join([f"house {house[0]} {house[1]}"] + list(map(text_of_passage, house[2])))


def spoiled_texts(chance, text, many):
    """Return texts that differ from this one by few characters or lines."""
    found = []
    for _ in range(many):
        changed = text
        for _ in range(chance.choice((1, 1, 1, 2))):
            place = chance.randrange(len(changed) + 1)
            sign = chance.choice(" \n0123489-h+.\t\r")
            kept = changed[place + chance.choice((0, 1)):]
            changed = changed[:place] + chance.choice((sign, sign, "", "  ", "\n\n")) + kept
        found.append(changed)
    return found


# The editor by hand

def slide_error_by_hand(house, fixed, slide):
    """Return (name, fields) of the error that points 8 and 18 name first, or None."""
    index, side, older, direction = slide
    indices = range(len(house[2]))
    for unknown in (index, older):
        if unknown not in indices:
            return "UnknownPassage", {"index": unknown}
    if older >= index:
        return "NotOlder", {"older": older}
    begins = way(house[2][older], direction)[0]
    if house[2][index][SIDES.index(side)] != begins:
        return "WrongRoom", {"room": begins}
    if index in fixed:
        return "PassageFixed", {"index": index}
    return None


class EditorByHand:
    """Read points 18 and 19 word by word. Each operation returns ("returned", value) or ("raised", name, fields)."""

    def __init__(self, house, fixed=()):
        # Passages with their marks, so that no index has to be changed.
        self.head = house[:2]
        self.states = [[(passage, index in fixed) for index, passage in enumerate(house[2])]]
        self.entries = []

    def house(self):
        return (*self.head, tuple(passage for passage, _ in self.states[-1]))

    def fixed(self):
        return tuple(index for index, (_, mark) in enumerate(self.states[-1]) if mark)

    def perform(self, name, *arguments):
        self.entries += [("begin", name), ("end", name)]
        return getattr(self, name)(*arguments)

    def done(self, rows, value=None):
        self.states.append(rows)
        return "returned", value

    def with_passages(self, house):
        return [(passage, mark) for passage, (_, mark) in zip(house[2], self.states[-1])]

    def slide(self, *slide):
        error = slide_error_by_hand(self.house(), self.fixed(), slide)
        if error:
            return "raised", *error
        new = slid(self.house(), slide)
        return self.done(self.with_passages(new), new[2][slide[0]][:2])

    def slide_all(self, slides):
        house = self.house()
        for slide in slides:
            error = slide_error_by_hand(house, self.fixed(), slide)
            if error:
                return "raised", *error
            house = slid(house, slide)
        return self.done(self.with_passages(house))

    def add(self, passage, index=None):
        rows = list(self.states[-1])
        if len(rows) == 12:
            return "raised", "EditorFull", {"count": 12}
        if index is None:
            index = len(rows)
        if index not in range(len(rows) + 1):
            return "raised", "InvalidIndex", {"index": index}
        rows.insert(index, (passage, False))
        return self.done(rows)

    def remove(self, index):
        rows = list(self.states[-1])
        if index not in range(len(rows)):
            return "raised", "UnknownPassage", {"index": index}
        del rows[index]
        return self.done(rows)

    def mark(self, index, mark, error):
        rows = list(self.states[-1])
        if index not in range(len(rows)):
            return "raised", "UnknownPassage", {"index": index}
        if rows[index][1] is mark:
            return "raised", error, {"index": index}
        rows[index] = (rows[index][0], mark)
        return self.done(rows)

    def fix(self, index):
        return self.mark(index, True, "PassageFixed")

    def release(self, index):
        return self.mark(index, False, "PassageNotFixed")

    def undo(self):
        if len(self.states) == 1:
            return "returned", False
        del self.states[-1]
        return "returned", True


def random_operation(chance, house, fixed):
    """Return the name and the arguments of an operation for an editor of this house; it may fail."""
    many = len(house[2])
    near = lambda: chance.randrange(-1, many + 2)
    name = chance.choice(("slide", "slide", "slide_all", "add", "remove", "fix", "release", "undo"))
    if name == "slide":
        possible = allowed_slides(house, fixed if chance.random() < 0.7 else ())
        if possible and chance.random() < 0.7:
            return name, *chance.choice(possible)
        return name, near(), chance.choice(SIDES), near(), chance.choice(DIRECTIONS)
    if name == "slide_all":
        slides, _ = random_slides(chance, house, chance.randrange(5), fixed if chance.random() < 0.7 else ())
        if chance.random() < 0.4:
            wrong = (near(), chance.choice(SIDES), near(), chance.choice(DIRECTIONS))
            slides.insert(chance.randrange(len(slides) + 1), wrong)
        return name, slides
    if name == "add":
        passage = random_passage(chance, house[0], house[1])
        return (name, passage) if chance.random() < 0.5 else (name, passage, chance.choice((None, near())))
    return (name,) if name == "undo" else (name, near())
