"""The form of the package's files: size, characters and imports."""

import ast
import os
import unittest

PACKAGE = os.path.join(os.path.dirname(os.path.dirname(os.path.abspath(__file__))), "elderways")
LIBRARY = {
    "__future__": {"annotations"},
    "heapq": {"heappush", "heappop", "heapify", "heapreplace", "heappushpop"},
    "math": {"gcd", "lcm", "isqrt", "comb", "perm", "factorial"},
    "itertools": {
        "product", "combinations", "permutations",
        "chain", "accumulate", "pairwise", "islice", "zip_longest",
    },
    "collections": {"defaultdict"},
}
# The functions and the class of the interface, by the file in which each one must be defined.
INTERFACE = {
    "permutations.py": ["is_permutation", "identity", "compose", "inverse", "order", "power"],
    "houses.py": ["is_house", "follow", "is_walk"],
    "components.py": ["components", "component_of"],
    "walks.py": ["permutations_between", "shortest_walk", "loop_count"],
    "slides.py": [
        "is_slide", "possible_slides", "apply_slide", "apply_slides", "reverse_slide", "first_invalid",
    ],
    "positions.py": ["positions", "position_count", "can_reach", "slides_to"],
    "reachability.py": ["is_reachable", "plan", "is_slide_path", "is_obstruction"],
    "canonical.py": ["canonical", "are_equivalent", "group_equivalent"],
    "counting.py": ["reachable_count", "reachable_at", "number_of", "all_reachable"],
    "constraints.py": ["matching_count", "first_match", "options"],
    "redundancy.py": [
        "is_redundant", "redundant_passages", "without_passage", "with_passage", "widened", "loop_growth",
    ],
    "repetition.py": ["apply_repeated", "period"],
    "transforms.py": ["rename_rooms", "relabel", "flip", "combine"],
    "editor.py": ["Editor"],
    "texts.py": ["format_passage", "format_house", "parse_house"],
    "session.py": ["run"],
}


def source_texts():
    """Return the texts of the package's files by their names."""
    texts = {}
    for name in sorted(os.listdir(PACKAGE)):
        if name.endswith(".py"):
            with open(os.path.join(PACKAGE, name), encoding="utf-8", newline="") as source:
                texts[name] = source.read()
    return texts


class FormTest(unittest.TestCase):
    def for_each_file(self, check):
        for name, text in source_texts().items():
            with self.subTest(file=name):
                check(name, text)

    def test_folder_holds_only_sources(self):
        names = [name for name in os.listdir(PACKAGE) if name != "__pycache__"]
        self.assertIn("__init__.py", names)
        self.assertEqual([name for name in names if not name.endswith(".py")], [])

    def test_sizes(self):
        def check(name, text):
            lines = text.split("\n")
            self.assertLessEqual(len(lines), 399)
            self.assertLessEqual(max(len(line) for line in lines), 120)
            for node in ast.walk(ast.parse(text)):
                if isinstance(node, ast.FunctionDef):
                    self.assertLessEqual(node.end_lineno - node.lineno + 1, 40, node.name)

        self.for_each_file(check)

    def test_characters(self):
        def check(name, text):
            self.assertEqual([sign for sign in text if not (sign == "\n" or " " <= sign <= "~")], [])

        self.for_each_file(check)

    def test_imports(self):
        def check(name, text):
            for node in ast.walk(ast.parse(text)):
                self.assertNotIsInstance(node, ast.Import)
                if isinstance(node, ast.ImportFrom) and not node.module.startswith("elderways."):
                    taken = {alias.name for alias in node.names}
                    self.assertLessEqual(taken, LIBRARY.get(node.module, set()))

        self.for_each_file(check)

    def test_interface_is_defined_in_its_files(self):
        texts = source_texts()
        for name, listed in INTERFACE.items():
            nodes = ast.parse(texts[name]).body
            defined = [node.name for node in nodes if isinstance(node, (ast.FunctionDef, ast.ClassDef))]
            self.assertEqual([found for found in listed if found not in defined], [], name)


if __name__ == "__main__":
    unittest.main()
