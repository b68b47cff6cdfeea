"""Runs the tests of one folder: python3 .ci/suite.py FOLDER TOP."""

import os
import sys
import unittest


def main(folder, top):
    root = os.path.dirname(os.path.dirname(os.path.abspath(__file__)))
    sys.path.insert(0, root)
    suite = unittest.defaultTestLoader.discover(folder, top_level_dir=top)
    result = unittest.TextTestRunner(stream=sys.stdout).run(suite)
    wrong = len(result.failures) + len(result.errors) + len(result.unexpectedSuccesses)
    skipped = len(result.skipped)
    passed = max(0, result.testsRun - wrong - skipped)
    print(f"{passed} passed, {wrong} failed, {skipped} skipped", flush=True)
    return 0 if result.wasSuccessful() else 1


if __name__ == "__main__":
    sys.exit(main(os.path.abspath(sys.argv[1]), os.path.abspath(sys.argv[2])))
