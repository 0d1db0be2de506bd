"""Points 1, 2, 3 and 21: the function of session.py."""

import random
import re
import unittest

from elderways.editor import Editor
from elderways.errors import InvalidCommand
from elderways.session import run
from tests import helpers
from tests.helpers import NUMBER, H, R

TEXT = "house 3 3\n0 1 120\n1 2 012"
ONE = "house 1 1\n0 0 0"
EMPTY = "house 1 1"
# Passage 2 is a loop in room 1, passage 3 is redundant; room 3 is alone.
YARD = "house 4 3\n0 1 120\n1 2 012\n1 1 120\n0 1 201"
COMMANDS = (
    "slide 1 start 0 backward", "add 0 0 012", "remove 0", "fix 0", "release 0", "undo", "house", "fixed", "count",
    "positions 0", "redundant", "components", "target 0 0 012",
)


class ExamplesTest(unittest.TestCase):
    """The example of point 21, as written."""

    def test_run(self):
        text = "house 3 3\n0 1 120\n1 2 012\ncount\nslide 1 start 0 backward\nundo"
        self.assertEqual(run(text), ["2", "0 2", "yes"])


# Point 21 by hand

SLIDE = re.compile(f"slide {NUMBER} (start|end) {NUMBER} (forward|backward)")
WITH_NUMBER = re.compile(f"(remove|fix|release|positions) {NUMBER}")
WITHOUT = ("undo", "house", "fixed", "count", "redundant", "components")


def command_by_hand(house, line):
    """Return a command as its name and its arguments, or None if the line is not a valid one."""
    if line in WITHOUT:
        return (line,)
    match = SLIDE.fullmatch(line)
    if match:
        return "slide", int(match[1]), match[2], int(match[3]), match[4]
    match = WITH_NUMBER.fullmatch(line)
    if match:
        return match[1], int(match[2])
    name, *words = line.split(" ")
    parts = [words[first:first + 3] for first in range(0, len(words), 3)]
    passages = [helpers.passage_of_text(house[0], house[1], " ".join(part)) for part in parts]
    if None in passages or name not in ("add", "target") or (name == "add" and len(passages) != 1):
        return None
    return (name, *passages)


def joined(parts, between):
    """Return the parts of an answer with this text between them; "-" stands for an empty answer."""
    return between.join(map(str, parts)) if parts else "-"


def query_by_hand(house, fixed, name, arguments):
    """Return the answer to a query, by the searches of the second reading."""
    indices = range(len(house[2]))
    reached = [
        {house[2][index]} if index in fixed else set(helpers.least_slides_alone(house, index)) for index in indices
    ]
    if name == "house":
        return joined([helpers.text_of_passage(passage) for passage in house[2]], " ; ")
    if name == "fixed":
        return joined(fixed, " ")
    if name == "count":
        count = 1
        for known in reached:
            count *= len(known)
        return str(count)
    if name == "positions":
        return str(len(reached[arguments[0]])) if arguments[0] in indices else "error UnknownPassage"
    if name == "redundant":
        steps = [helpers.least_steps(house, house[2][index][0], index) for index in indices]
        return joined([index for index in indices if house[2][index][1:] in steps[index]], " ")
    if name == "components":
        rooms = [
            sorted({room for room, _ in helpers.least_steps(house, first, len(house[2]))}) for first in range(house[0])
        ]
        return " ; ".join(joined(part, " ") for first, part in enumerate(rooms) if part[0] == first)
    if len(arguments) != len(indices):
        return "error ShapeMismatch"
    return "reachable" if all(passage in reached[index] for index, passage in enumerate(arguments)) else "unreachable"


def answer_by_hand(model, name, arguments):
    """Return the answer to a command."""
    if name not in ("slide", "add", "remove", "fix", "release", "undo"):
        return query_by_hand(model.house(), model.fixed(), name, arguments)
    kind, value, *_ = model.perform(name, *arguments)
    if kind == "raised":
        return "error " + value
    if name == "undo":
        return "yes" if value else "no"
    return joined(value, " ") if name == "slide" else "ok"


def run_by_hand(text):
    """Return the list of answers, or the index of the first line that is not valid."""
    lines = text.split("\n")
    begin = 1
    while begin < len(lines) and re.fullmatch(NUMBER, lines[begin].split(" ")[0]):
        begin += 1
    house = helpers.house_of_text("\n".join(lines[:begin]))
    if isinstance(house, int):
        return house
    commands = [command_by_hand(house, line) for line in lines[begin:]]
    if None in commands:
        return begin + commands.index(None)
    model = helpers.EditorByHand(house)
    return [answer_by_hand(model, name, arguments) for name, *arguments in commands]


def random_command(chance, house, fixed):
    """Return the line of a valid command."""
    name = chance.choice(("operation", "operation", "query", "target"))
    if name == "target":
        _, near = helpers.random_slides(chance, house, 4, fixed if chance.random() < 0.5 else ())
        far = helpers.random_house(chance, house[0], house[1], max(0, len(house[2]) + chance.randint(-1, 1)))
        return " ".join(
            ["target"] + [helpers.text_of_passage(passage) for passage in chance.choice((near, near, far))[2]]
        )
    if name == "query":
        name = chance.choice(WITHOUT[1:] + ("positions",))
        return f"positions {chance.randrange(len(house[2]) + 2)}" if name == "positions" else name
    while True:
        name, *arguments = helpers.random_operation(chance, house, fixed)
        if name == "add":
            return "add " + helpers.text_of_passage(arguments[0])
        if name != "slide_all" and -1 not in arguments:
            return " ".join(map(str, (name, *arguments)))


def random_session(chance, house, many):
    """Return a text of a house and that many valid commands."""
    lines, model = [helpers.text_of_house(house)], helpers.EditorByHand(house)
    for _ in range(many):
        lines.append(random_command(chance, model.house(), model.fixed()))
        name, *arguments = command_by_hand(house, lines[-1])
        answer_by_hand(model, name, arguments)
    return "\n".join(lines)


class RunTest(unittest.TestCase):
    def answers(self, text, *expected):
        self.assertEqual(run(text), list(expected))

    def refused(self, line, *texts):
        for text in texts:
            with self.subTest(text=text):
                helpers.check_raised(self, InvalidCommand, {"line": line}, run, text)

    def refused_lines(self, *lines):
        """Check that each line is no command, wherever it stands, and that no command is executed before."""
        for line in lines:
            self.refused(3, f"{TEXT}\n{line}", f"{TEXT}\n{line}\nundo", f"{TEXT}\n{line}\nnonsense")
            self.refused(5, f"{TEXT}\nundo\nfix 0\n{line}\ncount")

    def test_random_sessions(self):
        chance = random.Random(1)
        seen = set()
        for house in [H, (1, 1, ())] + helpers.random_houses(2, 60, most_rooms=4):
            text = random_session(chance, house, 25)
            expected = run_by_hand(text)
            self.assertEqual(run(text), expected)
            seen.update(expected)
        for answer in (
            "ok", "yes", "no", "-", "reachable", "unreachable", "error UnknownPassage", "error NotOlder",
            "error WrongRoom", "error PassageFixed", "error PassageNotFixed", "error ShapeMismatch",
        ):
            self.assertIn(answer, seen)

    def test_spoiled_sessions(self):
        chance = random.Random(3)
        outcomes = []
        for house in [H] + helpers.random_houses(4, 25, most_rooms=3, most_passages=4):
            for text in helpers.spoiled_texts(chance, random_session(chance, house, 8), 40):
                expected = run_by_hand(text)
                outcomes.append(isinstance(expected, int))
                if isinstance(expected, int):
                    self.refused(expected, text)
                else:
                    self.assertEqual(run(text), expected)
        self.assertGreater(outcomes.count(True), 300)
        self.assertGreater(outcomes.count(False), 30)

    def test_full_size(self):
        house = helpers.full_houses(5, 1)[0]
        editor = Editor(house)
        commands = [
            "count", "components", "redundant", "positions 11", "fix 11", "count", "add 0 0 0123", "house", "fixed",
        ]
        answers = run("\n".join([helpers.text_of_house(house)] + commands))
        self.assertEqual(answers[0], str(editor.reachable_count()))
        self.assertEqual(answers[1], query_by_hand(house, (), "components", []))
        self.assertEqual(answers[2], query_by_hand(house, (), "redundant", []))
        self.assertEqual(answers[3], str(len(editor.positions(11))))
        editor.fix(11)
        self.assertEqual(answers[5], str(editor.reachable_count()))
        self.assertEqual(answers[6], "error EditorFull")
        self.assertEqual(answers[7], " ; ".join(map(helpers.text_of_passage, house[2])))
        self.assertEqual(answers[8], "11")

    def test_no_command(self):
        for text in (TEXT, ONE, EMPTY, "house 8 4"):
            self.answers(text)

    def test_slide(self):
        slide = "slide 1 start 0 backward"
        self.answers(f"{TEXT}\n{slide}\n{slide}\nhouse", "0 2", "error WrongRoom", "0 1 120 ; 0 2 120")
        self.answers(f"{TEXT}\n{slide}\nslide 1 start 0 forward\nhouse", "0 2", "1 2", "0 1 120 ; 1 2 012")
        self.answers(f"{ONE}\n0 0 0\nslide 1 end 0 backward\nslide 1 end 0 forward", "0 0", "0 0")
        self.answers(
            f"{TEXT}\nslide 0 start 1 forward\nslide 2 end 0 forward", "error NotOlder", "error UnknownPassage",
        )
        self.answers(
            f"{TEXT}\nslide 1 end 2 forward\nfix 1\n{slide}", "error UnknownPassage", "ok", "error PassageFixed",
        )
        self.answers(f"{TEXT}\nfix 1\nslide 1 end 0 forward", "ok", "error WrongRoom")
        self.answers(f"{TEXT}\nslide {10 ** 12} end {10 ** 30} forward", "error UnknownPassage")

    def test_add_and_remove(self):
        self.answers(
            f"{TEXT}\nadd 2 2 201\nhouse\nremove 0\nhouse\nremove 2", "ok", "0 1 120 ; 1 2 012 ; 2 2 201", "ok",
            "1 2 012 ; 2 2 201", "error UnknownPassage",
        )
        self.answers(
            f"{EMPTY}\nremove 0\nadd 0 0 0\nhouse\nremove 0\nhouse", "error UnknownPassage", "ok", "0 0 0", "ok", "-",
        )
        self.answers(EMPTY + "\nadd 0 0 0" * 13, *["ok"] * 12, "error EditorFull")
        self.answers(EMPTY + "\n0 0 0" * 12 + "\nadd 0 0 0\nremove 11\nadd 0 0 0", "error EditorFull", "ok", "ok")

    def test_fix_and_release(self):
        self.answers(f"{TEXT}\nfixed\nfix 1\nfixed\nfix 0\nfixed\nfix 1\nfix 2", "-", "ok", "1", "ok", "0 1",
                     "error PassageFixed", "error UnknownPassage")
        self.answers(f"{TEXT}\nrelease 0\nfix 0\nrelease 0\nfixed\nrelease 7", "error PassageNotFixed", "ok", "ok", "-",
                     "error UnknownPassage")
        self.answers(f"{TEXT}\nfix 1\nremove 0\nfixed\nadd 0 0 012\nfixed", "ok", "ok", "0", "ok", "0")

    def test_undo(self):
        self.answers(
            f"{TEXT}\nundo\nfix 0\nfix 0\nundo\nundo\nfixed", "no", "ok", "error PassageFixed", "yes", "no", "-",
        )
        self.answers(f"{EMPTY}\nundo\nadd 0 0 0\nundo\nhouse", "no", "ok", "yes", "-")

    def test_count_and_positions(self):
        self.answers(
            f"{TEXT}\ncount\npositions 0\npositions 1\nfix 1\ncount\npositions 1\npositions 2", "2", "1", "2", "ok",
            "1", "1", "error UnknownPassage",
        )
        self.answers(f"{EMPTY}\ncount\npositions 0", "1", "error UnknownPassage")

    def test_redundant_and_components(self):
        self.answers(
            f"{YARD}\nredundant\ncomponents\nremove 1\nredundant\ncomponents", "3", "0 1 2 ; 3", "ok", "2",
            "0 1 ; 2 ; 3",
        )
        self.answers(f"{TEXT}\nredundant\ncomponents", "-", "0 1 2")
        self.answers(f"{ONE}\n0 0 0\nredundant\ncomponents", "0 1", "0")
        self.answers("house 3 1\nredundant\ncomponents", "-", "0 ; 1 ; 2")

    def test_target(self):
        self.answers(
            f"{TEXT}\ntarget 0 1 120 0 2 120\ntarget 0 1 120 1 2 012\ntarget 0 1 120 0 2 012", "reachable",
            "reachable", "unreachable",
        )
        self.answers(
            f"{TEXT}\nfix 1\ntarget 0 1 120 0 2 120\nrelease 1\ntarget 0 1 120 0 2 120", "ok", "unreachable", "ok",
            "reachable",
        )
        self.answers(f"{TEXT}\ntarget\ntarget 0 1 120\ntarget" + " 0 1 120" * 13, *["error ShapeMismatch"] * 3)
        self.answers(
            f"{EMPTY}\ntarget\ntarget 0 0 0\nadd 0 0 0\ntarget\ntarget 0 0 0", "reachable", "error ShapeMismatch",
            "ok", "error ShapeMismatch", "reachable",
        )

    def test_lines_that_are_no_command(self):
        for line in COMMANDS:
            self.assertEqual(len(run(f"{TEXT}\n{line}")), 1)
            self.refused_lines(
                line + " ", " " + line, line + "\t", "\t" + line, line.upper(), line + " x", line + "\r", "x" + line,
            )
            if " " in line:
                self.refused_lines(line.replace(" ", "  "), line.replace(" ", "  ", 1), line.replace(" ", "\t"))
        self.refused_lines(
            "", " ", "  ", "-", "?", "quit", "house 3 3", "# count", "count;count", "slide_all", "plan", "log",
        )

    def test_missing_and_extra_words(self):
        for line in COMMANDS:
            words = line.split(" ")
            for place in range(len(words)):
                # Without their names, these two would be one more passage of the house.
                if place or words[0] not in ("add", "target"):
                    self.refused_lines(" ".join(words[:place] + words[place + 1:]))
            for extra in ("0", "1 2", "x", "start", "forward", "012"):
                self.refused_lines(f"{line} {extra}")
        self.refused_lines(
            "target 0 0", "target 0 0 012 0", "target 0 0 012 0 0", "add 0 0 012 0 0 012", "add", "add 0 0",
        )

    def test_words_of_slide(self):
        for line in (
            "slide 1 begin 0 backward", "slide 1 Start 0 backward", "slide 1 start 0 back", "slide 1 start 0 Forward",
            "slide 1 forward 0 start", "slide 1 start backward 0", "slide start 1 0 backward", "slide 1 start 0 start",
            "slide 1 backward 0 backward",
        ):
            self.refused_lines(line)

    def test_numbers(self):
        for number in ("-1", "01", "00", "+1", "1.0", "1_0", "x", "0x1", "\u0661", "\u00b2", "1,", "None", "True"):
            for line in (
                "remove {}", "fix {}", "release {}", "positions {}", "slide {} end 0 forward",
                "slide 1 end {} forward", "add {} 0 012", "add 0 {} 012", "target {} 0 012",
                "target 0 0 012 0 {} 012",
            ):
                self.refused_lines(line.format(number))
        for number in (0, 5, 12, 13, 10 ** 12, 10 ** 190):
            self.answers(f"{EMPTY}\nremove {number}\nfix {number}\nrelease {number}\npositions {number}",
                         *["error UnknownPassage"] * 4)

    def test_rooms_and_permutations_must_fit_the_house(self):
        for name in ("add", "target", "target 0 0 012"):
            for passage in (
                "3 0 012", "0 3 012", "10 0 012", "0 0 01", "0 0 0123", "0 0 011", "0 0 123", "0 0 x", "0 0 -",
            ):
                self.refused_lines(f"{name} {passage}")
        self.refused(1, "house 1 1\nadd 1 0 0", "house 1 1\nadd 0 0 01", "house 1 1\ntarget 0 1 0")
        self.answers("house 8 4\nadd 7 0 3210\nhouse", "ok", "7 0 3210")

    def test_house_lines(self):
        self.refused(
            0, "", "count", "\n", "house", "house 9 1", "house 1 5", "house 0 1", "house 3 3 ", "0 1 120",
            "house 1 1\r\ncount",
        )
        self.refused(
            1, "house 3 3\n0 3 120\ncount", "house 3 3\n0 1 1200", "house 3 3\n0", "house 3 3\n0 1  120",
            "house 3 3\n1 ",
        )
        self.refused(2, "house 3 3\n0 1 120\n5 0 012\nnonsense", "house 3 3\n0 1 120\n00 0 012")
        self.refused(13, EMPTY + "\n0 0 0" * 13 + "\ncount", EMPTY + "\n0 0 0" * 14, EMPTY + "\n0 0 0" * 12 + "\n0 0 1")

    def test_passages_behind_commands(self):
        self.refused(3, f"{EMPTY}\n0 0 0\ncount\n0 0 0", f"{ONE}\ncount\n0\ncount")

    def test_line_feed_at_the_end_and_empty_lines(self):
        self.refused(3, TEXT + "\n", TEXT + "\n\ncount", TEXT + "\n\n")
        self.refused(4, TEXT + "\ncount\n", TEXT + "\ncount\n\n", TEXT + "\ncount\n\nundo")

    def test_nothing_is_executed_before_an_invalid_command(self):
        # The first commands would raise no error; only the index of the invalid line is told.
        self.refused(59, EMPTY + "\nadd 0 0 0" * 58 + "\nadd 0 0 00")
        self.refused(3, f"{ONE}\nslide 9 end 9 forward\nslide 9 end 9 sideways")

    def test_very_long_words(self):
        # More digits than int(..) takes.
        self.answers(f"{EMPTY}\nremove {'9' * 5000}", "error UnknownPassage")
        self.refused(
            1, f"{EMPTY}\nadd {'9' * 5000} 0 0", f"{EMPTY}\n{'9' * 5000} 0 0", f"{EMPTY}\nadd 0 0 {'0' * 5000}",
        )

    def test_conventions(self):
        helpers.check_conventions(self, run, text="\n".join((TEXT,) + COMMANDS))
        helpers.check_conventions(self, run, text=EMPTY)
        found = run(f"{TEXT}\ncount")
        found.clear()
        self.assertEqual(run(f"{TEXT}\ncount"), ["2"])


if __name__ == "__main__":
    unittest.main()
