"""Points 1, 2, 3, 9, 11, 18 and 19: the class of editor.py."""

import copy
import random
import unittest

from elderways import counting, positions, reachability
from elderways.editor import Editor
from elderways.errors import (
    EditorFull, InvalidIndex, NotOlder, PassageFixed, PassageNotFixed, ShapeMismatch, UnknownPassage, UnknownRevision,
    WrongRoom,
)
from tests import helpers
from tests.helpers import H, NUMBERS, R, S, T

SAME = (0, 1, 2)
SWAP = (1, 0, 2)
BACK = (1, "start", 0, "forward")
YARD = (4, 3, ((0, 1, R), (1, 1, SWAP), (2, 1, (0, 2, 1)), (0, 3, SAME)))
OTHERS = ((4, 3, H[2]), (2, 3, ()), (3, 2, ((0, 1, (1, 0)), (1, 2, (0, 1)))), (3, 3, H[2][:1]), (3, 3, H[2] * 2))
OPERATIONS = ("slide", "slide_all", "add", "remove", "fix", "release", "undo")
# For each operation, a call that succeeds on Editor(YARD, (2,)), and one that fails.
CALLS = {
    "slide": ((3, "start", 0, "forward"), (3, "end", 0, "forward")),
    "slide_all": (([(1, "end", 0, "backward")],), ([(1, "end", 0, "backward"), (9, "end", 0, "forward")],)),
    "add": (((3, 3, R), 1), ((3, 3, R), 9)),
    "remove": ((0,), (4,)),
    "fix": ((0,), (2,)),
    "release": ((2,), (0,)),
}


class ExamplesTest(unittest.TestCase):
    """The example of point 18, as written."""

    def test_slide(self):
        self.assertEqual(Editor(H).slide(1, "start", 0, "backward"), (0, 2))


def outcome(editor, name, *arguments):
    """Return ("returned", value) or ("raised", name, fields) of an operation."""
    try:
        return "returned", getattr(editor, name)(*arguments)
    except Exception as error:
        if type(error).__module__ != "elderways.errors":
            raise
        return "raised", type(error).__name__, vars(error)


def state(editor):
    """Return all that an editor's operations may change, but for the log."""
    return editor.house(), editor.fixed(), editor.current_revision()


def editor_after(operations, house, fixed=()):
    """Return an editor after these operations, some of which may fail."""
    editor = Editor(house, fixed)
    for operation in operations:
        outcome(editor, *operation)
    return editor


class OperationsTest(unittest.TestCase):
    def check(self, editor, model):
        """Hold the queries of an editor against those of a model."""
        house, fixed = model.house(), model.fixed()
        self.assertEqual(editor.house(), house)
        self.assertEqual(editor.fixed(), fixed)
        self.assertEqual(editor.current_revision(), len(model.states) - 1)
        self.assertEqual(editor.log(), model.entries)
        self.assertEqual(len(editor), len(house[2]))
        self.assertEqual(repr(editor), f"Editor({house[0]} rooms, {len(house[2])} passages)")
        self.assertIs(editor == Editor(house, fixed), True)

    def run_operations(self, chance, house, fixed, many):
        """Perform random operations on an editor and a model; return the outcomes by the names."""
        editor, model = Editor(house, fixed), helpers.EditorByHand(house, fixed)
        outcomes = []
        self.check(editor, model)
        for _ in range(many):
            name, *arguments = helpers.random_operation(chance, model.house(), model.fixed())
            form = chance.choice((helpers.listed, helpers.tupled, helpers.mixed, copy.deepcopy))
            given = form(arguments)
            before = copy.deepcopy(given)
            expected = model.perform(name, *arguments)
            self.assertEqual(outcome(editor, name, *given), expected, (name, arguments))
            self.assertEqual(given, before)
            self.check(editor, model)
            outcomes.append((name, expected[0], expected[1] if expected[0] == "raised" else None))
        for revision in range(-2, len(model.states) + 2):
            self.check_revision(editor, model, revision)
        self.check(editor, model)
        return outcomes

    def check_revision(self, editor, model, revision):
        """Hold at(revision) against the state that the model had then, and undo all operations before it."""
        if revision not in range(len(model.states)):
            helpers.check_raised(self, UnknownRevision, {"revision": revision}, editor.at, revision)
            return
        earlier = editor.at(revision)
        self.assertIs(type(earlier), Editor)
        self.assertEqual(earlier.log(), [])
        past = helpers.EditorByHand(model.house(), model.fixed())
        past.states = model.states[:revision + 1]
        for _ in range(revision + 2):
            self.check(earlier, past)
            self.assertEqual(outcome(earlier, "undo"), past.perform("undo"))

    def test_random_operations(self):
        chance = random.Random(1)
        outcomes = []
        for house in [H, YARD, (1, 1, ())] + helpers.random_houses(2, 25):
            for fixed in helpers.some_fixed(house)[:3]:
                outcomes += self.run_operations(chance, house, fixed, 30)
        seen = set(outcomes)
        for name in OPERATIONS:
            self.assertIn((name, "returned", None), seen)
        for name in ("slide", "slide_all"):
            for error in ("UnknownPassage", "NotOlder", "WrongRoom", "PassageFixed"):
                self.assertIn((name, "raised", error), seen)
        for error in (("add", "InvalidIndex"), ("fix", "PassageFixed"), ("release", "PassageNotFixed")):
            self.assertIn((error[0], "raised", error[1]), seen)

    def test_eighty_operations_at_the_full_size(self):
        chance = random.Random(3)
        for house in helpers.full_houses(4, 1):
            outcomes = self.run_operations(chance, house, (0, 7), 120)
            self.assertIn(("add", "raised", "EditorFull"), outcomes)

    def test_slide(self):
        editor = Editor(helpers.listed(H))
        self.assertEqual(editor.slide(*S), (0, 2))
        self.assertIs(type(editor.house()), tuple)
        self.assertEqual(editor.house(), T)
        self.assertEqual(editor.slide(direction="forward", older=0, side="start", index=1), (1, 2))
        self.assertEqual(editor.house(), H)
        self.assertEqual(editor.current_revision(), 2)
        self.assertEqual(Editor((1, 1, ((0, 0, (0,)),) * 2)).slide(1, "end", 0, "forward"), (0, 0))

    def test_slide_that_changes_nothing(self):
        editor = Editor((1, 1, ((0, 0, (0,)),) * 2))
        editor.slide(1, "end", 0, "forward")
        self.assertEqual(editor.current_revision(), 1)
        self.assertIs(editor.undo(), True)
        self.assertIs(editor.undo(), False)

    def test_slide_all(self):
        editor = Editor(H)
        self.assertIsNone(editor.slide_all([]))
        self.assertEqual(state(editor), (H, (), 1))
        self.assertIsNone(editor.slide_all([S, BACK]))
        self.assertEqual(state(editor), (H, (), 2))
        self.assertIsNone(editor.slide_all(slides=(list(S),)))
        self.assertEqual(state(editor), (T, (), 3))
        self.assertEqual(editor.log(), [("begin", "slide_all"), ("end", "slide_all")] * 3)
        self.assertIs(editor.undo(), True)
        self.assertEqual(state(editor), (H, (), 2))
        self.assertIs(editor.undo(), True)
        self.assertIs(editor.undo(), True)
        self.assertIs(editor.undo(), False)

    def test_slide_all_that_fails_in_the_middle(self):
        editor = Editor(H)
        editor.slide_all([S])
        for slides, error, fields in (
            ([BACK, S, S, (9, "end", 0, "forward")], WrongRoom, {"room": 1}),
            ([BACK, (7, "end", -3, "forward"), S], UnknownPassage, {"index": 7}),
            ([BACK, (0, "end", 1, "forward"), S], NotOlder, {"older": 1}),
            ([BACK, (1, "end", -3, "forward")], UnknownPassage, {"index": -3}),
        ):
            helpers.check_raised(self, error, fields, editor.slide_all, slides)
            self.assertEqual(state(editor), (T, (), 1))
        editor.fix(1)
        helpers.check_raised(self, PassageFixed, {"index": 1}, editor.slide_all, [BACK])
        self.assertEqual(state(editor), (T, (1,), 2))
        mixed = Editor(YARD, (3,))
        slides = [(1, "end", 0, "backward"), (3, "start", 0, "forward"), (2, "end", 0, "forward")]
        helpers.check_raised(self, PassageFixed, {"index": 3}, mixed.slide_all, slides)
        self.assertEqual(state(mixed), (YARD, (3,), 0))

    def test_two_hundred_slides(self):
        editor = Editor(H)
        editor.slide_all([S, BACK] * 100)
        self.assertEqual(state(editor), (H, (), 1))
        helpers.check_raised(self, WrongRoom, {"room": 1}, editor.slide_all, [S, BACK] * 99 + [S, S])
        self.assertEqual(state(editor), (H, (), 1))

    def test_add(self):
        new = (2, 2, SWAP)
        for index, expected in (
            (None, (*H[2], new)), (0, (new, *H[2])), (1, (H[2][0], new, H[2][1])), (2, (*H[2], new)),
        ):
            for form in (copy.deepcopy, helpers.listed):
                editor = Editor(H)
                self.assertIsNone(editor.add(index=index, passage=form(new)))
                self.assertEqual(state(editor), ((3, 3, expected), (), 1))
        editor = Editor(H)
        editor.add(new)
        self.assertEqual(editor.house()[2], (*H[2], new))

    def test_add_keeps_the_marks(self):
        for index, expected in (
            (0, (1, 3, 4)), (1, (0, 3, 4)), (2, (0, 3, 4)), (3, (0, 2, 4)), (4, (0, 2, 3)), (None, (0, 2, 3)),
        ):
            editor = Editor(YARD, (0, 2, 3))
            editor.add((0, 0, R), index)
            self.assertEqual(editor.fixed(), expected)
            editor.undo()
            self.assertEqual(editor.fixed(), (0, 2, 3))

    def test_add_at_a_wrong_index(self):
        for house in (H, (1, 1, ()), YARD):
            editor = Editor(house)
            passage = (0, 0, tuple(range(house[1])))
            for index in (-1, -2, -12, len(house[2]) + 1, 12, 10 ** 12, -10 ** 12):
                helpers.check_raised(self, InvalidIndex, {"index": index}, editor.add, passage, index)
                self.assertEqual(state(editor), (house, (), 0))

    def test_twelve_passages(self):
        one = (0, 0, (0,))
        editor = Editor((1, 1, (one,) * 11))
        editor.add(one)
        self.assertEqual(len(editor), 12)
        # A full editor comes before a wrong index.
        for index in (None, 0, 12, 13, -1, 10 ** 12):
            helpers.check_raised(self, EditorFull, {"count": 12}, editor.add, one, index)
        self.assertEqual(state(editor), ((1, 1, (one,) * 12), (), 1))
        editor.remove(0)
        editor.add(one, 11)
        self.assertEqual(len(editor), 12)
        helpers.check_raised(self, EditorFull, {"count": 12}, Editor((1, 1, (one,) * 12)).add, one)
        filled = Editor((1, 1, ()))
        for _ in range(12):
            filled.add(one)
        helpers.check_raised(self, EditorFull, {"count": 12}, filled.add, passage=one)

    def test_remove(self):
        editor = Editor(YARD, (0, 2, 3))
        self.assertIsNone(editor.remove(1))
        self.assertEqual(state(editor), ((4, 3, (YARD[2][0], YARD[2][2], YARD[2][3])), (0, 1, 2), 1))
        editor.remove(index=0)
        self.assertEqual(editor.fixed(), (0, 1))
        editor.remove(1)
        self.assertEqual(state(editor), ((4, 3, (YARD[2][2],)), (0,), 3))
        editor.remove(0)
        self.assertEqual(state(editor), ((4, 3, ()), (), 4))
        helpers.check_raised(self, UnknownPassage, {"index": 0}, editor.remove, 0)
        for _ in range(4):
            editor.undo()
        self.assertEqual(state(editor), (YARD, (0, 2, 3), 0))

    def test_a_passage_added_again_is_not_fixed(self):
        editor = Editor(H, (1,))
        editor.remove(1)
        editor.add(H[2][1])
        self.assertEqual(state(editor), (H, (), 2))
        self.assertEqual(editor.slide(*S), (0, 2))

    def test_fix_and_release(self):
        editor = Editor(YARD)
        for index, expected in ((2, (2,)), (0, (0, 2)), (3, (0, 2, 3)), (1, (0, 1, 2, 3))):
            self.assertIsNone(editor.fix(index))
            self.assertEqual(editor.fixed(), expected)
            helpers.check_raised(self, PassageFixed, {"index": index}, editor.fix, index)
        for index, expected in ((1, (0, 2, 3)), (0, (2, 3)), (3, (2,)), (2, ())):
            self.assertIsNone(editor.release(index=index))
            self.assertEqual(editor.fixed(), expected)
            helpers.check_raised(self, PassageNotFixed, {"index": index}, editor.release, index)
        self.assertEqual(state(editor), (YARD, (), 8))
        editor.undo()
        self.assertEqual(editor.fixed(), (2,))

    def test_unknown_passages(self):
        for house, fixed in ((H, ()), (H, (0, 1)), ((1, 1, ()), ())):
            editor = Editor(house, fixed)
            for number in NUMBERS:
                if number not in range(len(house[2])):
                    for name in ("remove", "fix", "release", "positions"):
                        helpers.check_raised(self, UnknownPassage, {"index": number}, getattr(editor, name), number)
            self.assertEqual(state(editor), (house, fixed, 0))

    def test_errors_of_slide_come_before_a_fixed_passage(self):
        editor = Editor(H, (0, 1))
        for slide, error, fields in (
            ((5, "end", 0, "forward"), UnknownPassage, {"index": 5}),
            ((1, "end", -1, "forward"), UnknownPassage, {"index": -1}),
            ((-1, "end", 7, "forward"), UnknownPassage, {"index": -1}),
            ((0, "start", 1, "backward"), NotOlder, {"older": 1}),
            ((1, "start", 1, "forward"), NotOlder, {"older": 1}),
            ((1, "end", 0, "forward"), WrongRoom, {"room": 0}),
            ((1, "start", 0, "forward"), WrongRoom, {"room": 0}),
            (S, PassageFixed, {"index": 1}),
        ):
            helpers.check_raised(self, error, fields, editor.slide, *slide)
            helpers.check_raised(self, error, fields, editor.slide_all, [slide, S])
            self.assertEqual(state(editor), (H, (0, 1), 0))

    def test_other_passages_slide_along_fixed_ones(self):
        editor = Editor(H, (0,))
        self.assertEqual(editor.slide(*S), (0, 2))
        self.assertEqual(editor.fixed(), (0,))

    def test_undo(self):
        editor = Editor(H)
        self.assertIs(editor.undo(), False)
        editor.slide(*S)
        editor.fix(1)
        self.assertIs(editor.undo(), True)
        self.assertEqual(state(editor), (T, (), 1))
        editor.add((0, 0, R))
        self.assertIs(editor.undo(), True)
        self.assertIs(editor.undo(), True)
        self.assertIs(editor.undo(), False)
        self.assertEqual(state(editor), (H, (), 0))

    def test_undo_passes_over_failed_operations(self):
        editor = Editor(YARD, (2,))
        for name, (fit, wrong) in CALLS.items():
            self.assertEqual(outcome(editor, name, *fit)[0], "returned")
            after = state(editor)
            for other, (_, bad) in CALLS.items():
                if outcome(editor, other, *bad)[0] == "returned":
                    editor.undo()
            self.assertEqual(state(editor), after)
            self.assertIs(editor.undo(), True)
            self.assertEqual(state(editor), (YARD, (2,), 0))
        self.assertIs(editor.undo(), False)


class LogTest(unittest.TestCase):
    def test_every_operation(self):
        for name, (fit, wrong) in CALLS.items():
            for arguments, kind in ((fit, "returned"), (wrong, "raised")):
                editor = Editor(YARD, (2,))
                self.assertEqual(editor.log(), [])
                self.assertEqual(outcome(editor, name, *arguments)[0], kind)
                self.assertEqual(editor.log(), [("begin", name), ("end", name)])
                self.assertEqual(outcome(editor, "undo"), ("returned", kind == "returned"))
                self.assertEqual(editor.log(), [("begin", name), ("end", name), ("begin", "undo"), ("end", "undo")])

    def test_queries_are_not_logged(self):
        editor = Editor(YARD, (2,))
        editor.fix(0)
        before = editor.log()
        for query in (
            editor.house, editor.fixed, editor.reachable_count, editor.current_revision, editor.copy, editor.log,
        ):
            query()
        editor.plan(YARD)
        editor.positions(1)
        editor.at(0)
        helpers.check_raised(self, UnknownRevision, {"revision": 2}, editor.at, 2)
        helpers.check_raised(self, UnknownPassage, {"index": 4}, editor.positions, 4)
        helpers.check_raised(self, ShapeMismatch, {}, editor.plan, H)
        repr(editor), len(editor), editor == editor
        self.assertEqual(editor.log(), before)

    def test_undone_operations_stay_in_the_log(self):
        editor = Editor(H)
        editor.slide(*S)
        editor.undo()
        editor.undo()
        self.assertEqual([name for word, name in editor.log() if word == "begin"], ["slide", "undo", "undo"])

    def test_the_list_is_new_each_time(self):
        editor = Editor(H)
        editor.fix(0)
        editor.log().clear()
        found = editor.log()
        found.append("changed")
        self.assertEqual(editor.log(), [("begin", "fix"), ("end", "fix")])
        self.assertIsNot(editor.log(), editor.log())
        self.assertEqual({type(pair) for pair in editor.log()}, {tuple})


class QueriesTest(unittest.TestCase):
    def test_results_of_the_functions(self):
        chance = random.Random(5)
        for house in [H, YARD, (1, 1, ())] + helpers.random_houses(6, 20) + helpers.full_houses(7, 1):
            for fixed in helpers.some_fixed(house):
                editor = Editor(house, fixed)
                self.assertEqual(editor.reachable_count(), counting.reachable_count(house, fixed))
                for index in range(len(house[2])):
                    expected = [house[2][index]] if index in fixed else positions.positions(house, index)
                    self.assertEqual(editor.positions(index), expected)
                _, near = helpers.random_slides(chance, house, 5, fixed)
                far = helpers.random_house(chance, house[0], house[1], len(house[2]))
                for target in (house, near, far):
                    found = editor.plan(target)
                    self.assertEqual(found, reachability.plan(house, target, fixed))
                    if found[0] == "slides":
                        self.assertIs(helpers.is_slide_path_by_hand(house, target, fixed, found[1]), True)
                    else:
                        self.assertIs(helpers.is_obstruction_by_hand(house, target, fixed, found), True)

    def test_queries_follow_the_operations(self):
        editor = Editor(H)
        self.assertEqual(editor.reachable_count(), 2)
        self.assertEqual(editor.plan(T), ("slides", [S]))
        editor.slide(*S)
        self.assertEqual(editor.plan(T), ("slides", []))
        editor.fix(1)
        self.assertEqual(editor.reachable_count(), 1)
        self.assertEqual(editor.positions(1), [T[2][1]])
        self.assertEqual(editor.plan(H), ("fixed", 1))
        editor.remove(1)
        self.assertEqual(editor.plan((3, 3, H[2][:1])), ("slides", []))
        editor.undo()
        editor.undo()
        self.assertEqual(editor.positions(1), [T[2][1], H[2][1]])

    def test_plan_of_another_shape(self):
        for other in OTHERS:
            for form in (copy.deepcopy, helpers.listed):
                helpers.check_raised(self, ShapeMismatch, {}, Editor(H).plan, form(other))
                helpers.check_raised(self, ShapeMismatch, {}, Editor(H, (0, 1)).plan, target=form(other))
                helpers.check_raised(self, ShapeMismatch, {}, Editor(other).plan, H)

    def test_names_and_lists(self):
        editor = Editor(fixed=[1], house=helpers.listed(H))
        self.assertEqual((editor.house(), editor.fixed()), (H, (1,)))
        self.assertEqual(editor.plan(target=helpers.listed(H)), ("slides", []))
        self.assertEqual(editor.positions(index=0), [H[2][0]])
        self.assertEqual(editor.at(revision=0), editor)
        helpers.holds_only(self, editor.house(), (tuple, int))
        helpers.holds_only(self, editor.fixed(), (tuple, int))
        editor.add(passage=[2, 2, [1, 0, 2]], index=0)
        helpers.holds_only(self, editor.house(), (tuple, int))
        self.assertEqual(editor.fixed(), (2,))

    def test_arguments_changed_later(self):
        house, fixed, passage, slides = helpers.listed(H), [0], [2, 2, [1, 0, 2]], [list(S)]
        editor = Editor(house, fixed)
        editor.add(passage)
        editor.slide_all(slides)
        before = state(editor)
        house[2].clear()
        house[0] = 7
        fixed.append(1)
        passage[2].reverse()
        slides[0][0] = 9
        self.assertEqual(state(editor), before)
        self.assertEqual(before, ((3, 3, (*T[2], (2, 2, SWAP))), (0,), 2))

    def test_results_changed_later(self):
        editor = Editor(YARD)
        expected = editor.positions(3)
        editor.positions(3).clear()
        editor.plan(YARD)[1].append("changed")
        self.assertEqual(editor.positions(3), expected)
        self.assertEqual(editor.plan(YARD), ("slides", []))
        lists = [
            editor.positions(3), editor.positions(3), editor.plan(YARD)[1], editor.plan(YARD)[1], editor.log(),
            editor.log(),
        ]
        self.assertEqual(len({id(found) for found in lists}), len(lists))


class RevisionsTest(unittest.TestCase):
    def test_first_and_last_and_beyond(self):
        editor = Editor(H)
        editor.slide(*S)
        editor.fix(1)
        editor.add((0, 0, R), 0)
        self.assertEqual(editor.current_revision(), 3)
        for revision, expected in ((0, (H, ())), (1, (T, ())), (2, (T, (1,))), (3, (editor.house(), (2,)))):
            earlier = editor.at(revision)
            self.assertEqual((earlier.house(), earlier.fixed()), expected)
            self.assertEqual(earlier.current_revision(), revision)
            self.assertEqual(earlier.log(), [])
        for revision in (4, 5, -1, -4, 10 ** 12, -10 ** 12):
            helpers.check_raised(self, UnknownRevision, {"revision": revision}, editor.at, revision)
        helpers.check_raised(self, UnknownRevision, {"revision": 1}, Editor(H).at, revision=1)
        self.assertEqual(Editor(H).at(0), Editor(H))

    def test_undone_operations_are_no_revisions(self):
        editor = Editor(H)
        editor.slide(*S)
        editor.undo()
        helpers.check_raised(self, UnknownRevision, {"revision": 1}, editor.at, 1)
        editor.fix(0)
        self.assertEqual(editor.at(1).fixed(), (0,))
        self.assertEqual(editor.at(1).house(), H)

    def test_they_can_undo(self):
        editor = Editor(H)
        editor.slide(*S)
        editor.fix(1)
        earlier = editor.at(1)
        self.assertIs(earlier.undo(), True)
        self.assertEqual(state(earlier), (H, (), 0))
        self.assertIs(earlier.undo(), False)
        self.assertEqual(state(editor), (T, (1,), 2))

    def test_copies_go_on_by_themselves(self):
        editor = Editor(H)
        editor.slide(*S)
        twin = editor.copy()
        self.assertIsNot(twin, editor)
        self.assertEqual(twin, editor)
        self.assertEqual((state(twin), twin.log()), (state(editor), []))
        twin.fix(0)
        twin.add((0, 0, R))
        self.assertEqual(state(editor), (T, (), 1))
        editor.undo()
        editor.remove(0)
        self.assertEqual(state(editor), ((3, 3, H[2][1:]), (), 1))
        self.assertEqual(state(twin), ((3, 3, (*T[2], (0, 0, R))), (0,), 3))
        for _ in range(3):
            self.assertIs(twin.undo(), True)
        self.assertEqual(state(twin), (H, (), 0))
        self.assertEqual(editor.log()[2:], [("begin", "undo"), ("end", "undo"), ("begin", "remove"), ("end", "remove")])

    def test_copy_of_a_copy(self):
        editor = editor_after([("slide", *S), ("fix", 0)], H).copy().copy().at(1).copy()
        self.assertEqual(state(editor), (T, (), 1))
        editor.undo()
        self.assertEqual(editor, Editor(H))


class ObjectTest(unittest.TestCase):
    def test_equality(self):
        editors = [
            Editor(H), Editor(T), Editor(H, (0,)), Editor(H, (1,)), Editor((3, 3, ())), Editor((4, 3, H[2])),
            Editor((3, 2, ())),
        ]
        for place, first in enumerate(editors):
            for other, second in enumerate(editors):
                self.assertIs(first == second, place == other)
                self.assertIs(first != second, place != other)
        self.assertIs(Editor(H) == Editor(helpers.listed(H), []), True)

    def test_equality_forgets_the_past(self):
        editor = editor_after([("slide", *S), ("fix", 0), ("undo",)], H)
        self.assertIs(editor == Editor(T), True)
        self.assertIs(Editor(T) != editor, False)
        self.assertIs(editor == Editor(H), False)

    def test_unequal_to_anything_else(self):
        for other in (
            H, helpers.listed(H), None, True, False, 2, 0, "Editor(3 rooms, 2 passages)", [], (), {}, Editor,
            object(), (H, ()),
        ):
            self.assertIs(Editor(H) == other, False)
            self.assertIs(other == Editor(H), False)
            self.assertIs(Editor(H) != other, True)
            self.assertIs(other != Editor(H), True)

    def test_length_and_text(self):
        for house, text in (
            (H, "Editor(3 rooms, 2 passages)"), ((1, 1, ()), "Editor(1 rooms, 0 passages)"),
            ((1, 3, ((0, 0, R),)), "Editor(1 rooms, 1 passages)"), ((8, 4, ()), "Editor(8 rooms, 0 passages)"),
        ):
            editor = Editor(house)
            self.assertEqual(repr(editor), text)
            self.assertEqual(str(editor), text)
            self.assertEqual(len(editor), len(house[2]))
        editor = Editor((1, 1, ()))
        editor.add((0, 0, (0,)))
        self.assertEqual((len(editor), repr(editor)), (1, "Editor(1 rooms, 1 passages)"))

    def test_methods_are_defined_in_the_class(self):
        names = OPERATIONS + (
            "house", "fixed", "plan", "reachable_count", "positions", "current_revision", "at", "copy", "log",
            "__init__", "__eq__", "__len__", "__repr__",
        )
        self.assertEqual([name for name in names if name not in vars(Editor)], [])
        self.assertEqual(Editor.__module__, "elderways.editor")

    def test_editors_share_nothing(self):
        first, second = Editor(H), Editor(H)
        first.fix(0)
        self.assertEqual((second.fixed(), second.log(), second.current_revision()), ((), [], 0))


class GuaranteesTest(unittest.TestCase):
    """Point 1: after any operations, an editor answers like a new editor with the same house."""

    def test_answers_like_a_new_editor(self):
        chance = random.Random(8)
        for house in [H, YARD] + helpers.random_houses(9, 15):
            editor = Editor(house)
            for _ in range(12):
                outcome(editor, *helpers.random_operation(chance, editor.house(), editor.fixed()))
                new = Editor(editor.house(), editor.fixed())
                self.assertEqual(editor, new)
                self.assertEqual(repr(editor), repr(new))
                self.assertEqual(editor.reachable_count(), new.reachable_count())
                for index in range(len(new)):
                    self.assertEqual(editor.positions(index), new.positions(index))
                target = helpers.random_house(chance, house[0], house[1], len(new))
                self.assertEqual(editor.plan(target), new.plan(target))
                operation = helpers.random_operation(chance, editor.house(), editor.fixed())
                if operation[0] != "undo":
                    twin = editor.copy()
                    self.assertEqual(outcome(twin, *operation), outcome(new, *operation))
                    self.assertEqual(twin, new)

    def test_a_call_that_raises_changes_nothing_but_the_log(self):
        for name, (_, wrong) in CALLS.items():
            editor = Editor(YARD, (2,))
            editor.fix(0)
            editor.slide(1, "end", 0, "backward")
            before, entries = state(editor), editor.log()
            bad = (0,) if name == "fix" else (1,) if name == "release" else wrong
            self.assertEqual(outcome(editor, name, *bad)[0], "raised")
            self.assertEqual(state(editor), before)
            self.assertEqual(editor.log(), entries + [("begin", name), ("end", name)])
            editor.undo()
            self.assertEqual(state(editor), (YARD, (0, 2), 1))


if __name__ == "__main__":
    unittest.main()
