"""Runs every test_*.py of a folder and closes with a line that counts; fails if one fails or none ran."""

import os
import sys
import unittest


def main(folder):
    # The tests of any folder import the package of this project.
    sys.path.insert(0, os.path.dirname(os.path.dirname(os.path.abspath(__file__))))
    suite = unittest.TestLoader().discover(folder, pattern="test_*.py", top_level_dir=folder)
    result = unittest.TextTestRunner().run(suite)
    failed = len(result.failures) + len(result.errors) + len(result.unexpectedSuccesses)
    skipped = len(result.skipped)
    print(f"{result.testsRun - failed - skipped} passed, {failed} failed, {skipped} skipped", flush=True)
    return 0 if result.wasSuccessful() and result.testsRun > skipped else 1


if __name__ == "__main__":
    sys.exit(main(sys.argv[1]))
