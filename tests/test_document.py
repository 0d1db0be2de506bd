"""Points 0, 1, 2, 3 and 11 over the whole program: names and arguments, ShapeMismatch first, all parts together."""

import importlib
import inspect
import random
import unittest

from elderways import limits
from elderways.canonical import are_equivalent, canonical
from elderways.constraints import first_match, matching_count
from elderways.counting import all_reachable, number_of, reachable_at, reachable_count
from elderways.editor import Editor
from elderways.errors import ShapeMismatch
from elderways.houses import is_house
from elderways.positions import positions
from elderways.reachability import is_obstruction, is_reachable, is_slide_path, plan
from elderways.redundancy import redundant_passages, without_passage
from elderways.session import run
from elderways.slides import apply_slides
from elderways.texts import format_house, format_passage, parse_house
from elderways.transforms import combine, flip, relabel, rename_rooms
from tests import helpers
from tests.helpers import H, R, T

# The parameters of every function, with the defaults that the document gives.
FUNCTIONS = {
    "permutations": {
        "is_permutation": "(size, value)", "identity": "(size)", "compose": "(first, second)",
        "inverse": "(permutation)", "order": "(permutation)", "power": "(permutation, exponent)",
    },
    "houses": {
        "is_house": "(value)", "follow": "(house, room, walk)", "is_walk": "(house, start, end, permutation, value)",
    },
    "components": {"components": "(house, count)", "component_of": "(house, room, count)"},
    "walks": {
        "permutations_between": "(house, start, end, count)",
        "shortest_walk": "(house, start, end, permutation, count)", "loop_count": "(house, room, count)",
    },
    "slides": {
        "is_slide": "(house, value)", "possible_slides": "(house)", "apply_slide": "(house, slide)",
        "apply_slides": "(house, slides)", "reverse_slide": "(slide)", "first_invalid": "(house, slides, fixed)",
    },
    "positions": {
        "positions": "(house, index)", "position_count": "(house, index)", "can_reach": "(house, index, passage)",
        "slides_to": "(house, index, passage)",
    },
    "reachability": {
        "is_reachable": "(house, target, fixed=())", "plan": "(house, target, fixed=())",
        "is_slide_path": "(house, target, fixed, value)", "is_obstruction": "(house, target, fixed, value)",
    },
    "canonical": {
        "canonical": "(house, fixed=())", "are_equivalent": "(house, target, fixed=())",
        "group_equivalent": "(houses, fixed=())",
    },
    "counting": {
        "reachable_count": "(house, fixed=())", "reachable_at": "(house, number, fixed=())",
        "number_of": "(house, target, fixed=())", "all_reachable": "(house, fixed=())",
    },
    "constraints": {
        "matching_count": "(house, constraints, fixed=())", "first_match": "(house, constraints, fixed=())",
        "options": "(house, index, fixed=())",
    },
    "redundancy": {
        "is_redundant": "(house, index)", "redundant_passages": "(house)", "without_passage": "(house, index)",
        "with_passage": "(house, index, passage)", "widened": "(house, index, passage)",
        "loop_growth": "(house, room)",
    },
    "repetition": {"apply_repeated": "(house, slide, times)", "period": "(house, slide)"},
    "transforms": {
        "rename_rooms": "(house, mapping)", "relabel": "(house, permutation)", "flip": "(house, index)",
        "combine": "(first, second, indices)",
    },
    "texts": {"format_passage": "(passage)", "format_house": "(house)", "parse_house": "(text)"},
    "session": {"run": "(text)"},
}
METHODS = {
    "__init__": "(self, house, fixed=())", "slide": "(self, index, side, older, direction)",
    "slide_all": "(self, slides)", "add": "(self, passage, index=None)", "remove": "(self, index)",
    "fix": "(self, index)", "release": "(self, index)", "undo": "(self)", "house": "(self)", "fixed": "(self)",
    "plan": "(self, target)", "reachable_count": "(self)", "positions": "(self, index)",
    "current_revision": "(self)", "at": "(self, revision)", "copy": "(self)", "log": "(self)",
}
# Houses that differ from H in one of the three numbers of a shape.
OTHERS = ((4, 3, H[2]), (3, 2, ((0, 1, (1, 0)), (1, 2, (0, 1)))), (3, 3, H[2][:1]), (3, 3, H[2] * 2), (3, 3, ()))


class InterfaceTest(unittest.TestCase):
    """Point 0: everything that the interface lists exists under its name, with these arguments."""

    def test_functions(self):
        for place, functions in FUNCTIONS.items():
            module = importlib.import_module("elderways." + place)
            for name, parameters in functions.items():
                function = getattr(module, name)
                self.assertEqual(str(inspect.signature(function)), parameters, name)
                self.assertEqual(function.__module__, "elderways." + place)

    def test_methods(self):
        for name, parameters in METHODS.items():
            self.assertEqual(str(inspect.signature(vars(Editor)[name])), parameters, name)

    def test_limit(self):
        self.assertEqual(limits.MAX_LISTED, 600)


class ShapeMismatchTest(unittest.TestCase):
    """Point 11: ShapeMismatch comes first wherever house and target occur."""

    def raised(self, function, *arguments, **named):
        helpers.check_raised(self, ShapeMismatch, {}, function, *arguments, **named)

    def test_every_function(self):
        tried = 0
        for place, functions in FUNCTIONS.items():
            for name, parameters in functions.items():
                if parameters.startswith("(house, target"):
                    tried += 1
                    function = getattr(importlib.import_module("elderways." + place), name)
                    self.check(function, "value" in parameters)
        self.assertEqual(tried, 6)

    def check(self, function, takes_value):
        for other in OTHERS:
            for house, target in ((H, other), (other, H)):
                for fixed in ((), (0,), (0, 1)):
                    rest = ([],) if takes_value else ()
                    self.raised(function, house, target, fixed, *rest)
                    self.raised(function, helpers.listed(house), helpers.listed(target), list(fixed), *rest)
                if not takes_value:
                    self.raised(function, target=target, house=house)

    def test_before_the_value_is_tested(self):
        for value in helpers.junk():
            self.raised(is_slide_path, H, OTHERS[0], (), value)
            self.raised(is_obstruction, H, OTHERS[2], (1,), value)

    def test_editor(self):
        for other in OTHERS:
            for fixed in ((), (0,), (0, 1)):
                self.raised(Editor(H, fixed).plan, other)
                self.raised(Editor(H, fixed).plan, target=helpers.listed(other))
            self.raised(Editor(other).plan, H)


class TogetherTest(unittest.TestCase):
    """Point 1: what several modules say of the same houses agrees."""

    def test_ways_to_ask_whether_a_house_can_become_another(self):
        chance = random.Random(1)
        outcomes = []
        for house in [H] + helpers.random_houses(2, 40, most_rooms=3, most_size=2) + helpers.full_houses(3, 1):
            for fixed in helpers.some_fixed(house):
                _, near = helpers.random_slides(chance, house, 6, fixed)
                far = helpers.random_house(chance, house[0], house[1], len(house[2]))
                for target in (near, far):
                    outcomes.append(self.check_pair(house, target, fixed))
        self.assertGreater(outcomes.count(True), 50)
        self.assertGreater(outcomes.count(False), 50)

    def check_pair(self, house, target, fixed):
        reachable = is_reachable(house, target, fixed)
        found = plan(house, target, fixed)
        self.assertIs(found[0] == "slides", reachable)
        self.assertIs(is_obstruction(house, target, fixed, found), not reachable)
        self.assertIs(found[0] == "slides" and is_slide_path(house, target, fixed, found[1]), reachable)
        self.assertIs(are_equivalent(house, target, fixed), reachable)
        self.assertIs(canonical(house, fixed) == canonical(target, fixed), reachable)
        exact = [(index, *passage) for index, passage in enumerate(target[2])]
        self.assertEqual(matching_count(house, exact, fixed), int(reachable))
        self.assertEqual(Editor(house, fixed).plan(target), found)
        if reachable:
            self.assertEqual(apply_slides(house, found[1]), target)
            self.assertEqual(first_match(house, exact, fixed), target)
            self.assertEqual(reachable_at(house, number_of(house, target, fixed), fixed), target)
        return reachable

    def test_sessions_and_editors(self):
        chance = random.Random(4)
        for house in [H] + helpers.random_houses(5, 20):
            target = helpers.random_house(chance, house[0], house[1], len(house[2]))
            words = " ".join(["target"] + [format_passage(passage) for passage in target[2]])
            answers = run(format_house(house) + "\ncount\n" + words + "\nredundant")
            self.assertEqual(answers[0], str(Editor(house).reachable_count()))
            self.assertEqual(answers[1], "reachable" if is_reachable(house, target) else "unreachable")
            self.assertEqual(answers[2], " ".join(map(str, redundant_passages(house))) or "-")

    def test_results_are_arguments_for_others(self):
        for house in [H, T] + helpers.random_houses(6, 15):
            mapping = list(range(house[0]))[::-1]
            found = relabel(rename_rooms(house, mapping), tuple(range(house[1])))
            self.assertEqual(rename_rooms(found, mapping), house)
            both = combine(house, found, tuple(range(len(house[2]))))
            self.assertIs(is_house(both), True)
            self.assertEqual(reachable_count(both), reachable_count(house) * reachable_count(found))
            for index in range(len(house[2])):
                self.assertEqual(flip(flip(both, index), index), both)
                self.assertEqual(positions(both, index), positions(house, index))
                self.assertEqual(len(without_passage(both, index)[2]), 2 * len(house[2]) - 1)
            if reachable_count(house) <= 50:
                for new in all_reachable(house):
                    self.assertEqual(canonical(new), canonical(house))
                    self.assertEqual(parse_house(format_house(new)), new)

    def test_combined_houses_are_not_limited(self):
        first, second = helpers.full_houses(7, 2)
        both = combine(first, second, tuple(range(0, 24, 2)))
        self.assertEqual((both[0], len(both[2])), (16, 24))
        self.assertEqual(reachable_count(both), reachable_count(first) * reachable_count(second))
        editor = Editor(both)
        self.assertEqual((len(editor), repr(editor)), (24, "Editor(16 rooms, 24 passages)"))
        turned = flip((1, 3, ((0, 0, R),)), 0)
        self.assertEqual(canonical(turned), turned)


if __name__ == "__main__":
    unittest.main()
