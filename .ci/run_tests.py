"""Run every test of the project and of ../shared/tests, and print how many passed.

Each test file runs in a process of its own, because files of the two folders
may have the same name.
"""

import os
import subprocess
import sys
import unittest

ROOT = os.path.dirname(os.path.dirname(os.path.abspath(__file__)))
OWN_TESTS = os.path.join(ROOT, "tests")
SHARED_TESTS = os.path.join(os.path.dirname(ROOT), "shared", "tests")


def test_files(top):
    """Return the paths of the test files at or below a folder, in order."""
    found = []
    for folder, _, names in os.walk(top):
        for name in names:
            if name.startswith("test_") and name.endswith(".py"):
                found.append(os.path.join(folder, name))
    return sorted(found)


def passed_tests(result):
    """Return how many tests of a result passed."""
    others = (
        result.failures,
        result.errors,
        result.skipped,
        result.expectedFailures,
        result.unexpectedSuccesses,
    )
    return max(0, result.testsRun - sum(len(tests) for tests in others))


def run_here(path):
    """Run one test file, print how many tests passed, and return the exit status."""
    folder, name = os.path.split(path)
    sys.path[:1] = [folder, ROOT]
    suite = unittest.defaultTestLoader.loadTestsFromName(name[: -len(".py")])
    result = unittest.TextTestRunner().run(suite)
    print()  # ends a line that a test may have left open
    print(passed_tests(result))
    return 0 if result.wasSuccessful() else 1


def run_apart(path):
    """Run one test file in a process of its own; return (success, tests that passed)."""
    print("==", os.path.relpath(path, ROOT), flush=True)
    command = [sys.executable, os.path.abspath(__file__), path]
    done = subprocess.run(command, cwd=ROOT, stdout=subprocess.PIPE, text=True)
    lines = done.stdout.splitlines()
    # Without a number in the last line, the process ended before the tests did.
    if not lines or not lines[-1].isdigit():
        print(done.stdout)
        return False, 0
    for line in lines[:-1]:
        print(line, flush=True)
    return done.returncode == 0, int(lines[-1])


def run_folder(top):
    """Run the test files at or below a folder; return (files that fail, tests that passed)."""
    failing, total = [], 0
    for path in test_files(top):
        success, passed = run_apart(path)
        total += passed
        if not success:
            failing.append(os.path.relpath(path, ROOT))
    return failing, total


def main():
    """Run everything, print the outcome and return the exit status."""
    own_failing, own_total = run_folder(OWN_TESTS)
    shared_failing, shared_total = run_folder(SHARED_TESTS)
    failing = own_failing + shared_failing
    for path in failing:
        print("failed:", path)
    print(f"{own_total + shared_total} tests passed ({own_total} here, {shared_total} in ../shared/tests)")
    if own_total == 0:
        print("failed: the project has no test")
    return 1 if failing or own_total == 0 else 0


if __name__ == "__main__":
    sys.exit(run_here(sys.argv[1]) if len(sys.argv) > 1 else main())
