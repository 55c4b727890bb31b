"""Runs every test_*.py of a folder; fails if one fails, or if there is none."""

import sys
import unittest


def main(folder):
    suite = unittest.TestLoader().discover(folder, pattern="test_*.py", top_level_dir=folder)
    result = unittest.TextTestRunner(stream=sys.stdout).run(suite)
    bad = len(result.failures) + len(result.errors) + len(result.unexpectedSuccesses)
    print(f"{result.testsRun - bad} passed, {bad} failed", flush=True)
    return 0 if result.testsRun and not bad else 1


if __name__ == "__main__":
    sys.exit(main(sys.argv[1]))
