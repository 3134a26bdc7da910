"""Runs the tests test_*.py of one folder, and ends with a line that counts them."""

import os
import sys
import unittest


def main(folder):
    """Returns 0 if there are tests and all of them pass, otherwise 1."""
    sys.path.insert(0, os.path.abspath(folder))
    names = sorted(name[:-3] for name in os.listdir(folder) if name.startswith("test_") and name.endswith(".py"))
    suite = unittest.defaultTestLoader.loadTestsFromNames(names)
    result = unittest.TextTestRunner(verbosity=1).run(suite)
    failed = len(result.failures) + len(result.errors) + len(result.unexpectedSuccesses)
    skipped = len(result.skipped)
    print(f"tests of {folder}", flush=True)
    print(f"{result.testsRun - failed - skipped} passed, {failed} failed, {skipped} skipped", flush=True)
    return 0 if result.wasSuccessful() and result.testsRun > 0 else 1


if __name__ == "__main__":
    sys.exit(main(sys.argv[1]))
