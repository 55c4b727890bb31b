"""Runs every test_*.py of a folder, each in a process of its own; fails if a test fails, or if there is none."""

import concurrent.futures
import os
import subprocess
import sys
import unittest


def run_file(folder, name):
    """Runs one file here, and prints how many of its tests passed and failed."""
    suite = unittest.TestLoader().discover(folder, pattern=name, top_level_dir=folder)
    result = unittest.TextTestRunner(stream=sys.stdout).run(suite)
    bad = len(result.failures) + len(result.errors) + len(result.unexpectedSuccesses)
    print(f"{result.testsRun - bad} passed, {bad} failed", flush=True)
    return 0 if result.testsRun and not bad else 1


def told_by(folder, name):
    """What a process that runs one file prints, and whether all of its tests passed."""
    done = subprocess.run([sys.executable, os.path.abspath(__file__), folder, name], stdout=subprocess.PIPE,
                          stderr=subprocess.STDOUT, text=True, check=False)
    return done.stdout, done.returncode == 0


def main(folder):
    names = sorted(name for name in os.listdir(folder) if name.startswith("test_") and name.endswith(".py"))
    with concurrent.futures.ThreadPoolExecutor(os.cpu_count() or 1) as pool:
        told = list(pool.map(lambda name: told_by(folder, name), names))
    passed = failed = 0
    for name, (text, is_good) in zip(names, told):
        rows = text.rstrip("\n").split("\n")
        words = rows[-1].split(" ")
        print(name, rows[-1] if is_good else "failed")
        if not is_good:
            print(text)
        if len(words) == 4 and words[0].isdigit() and words[1] == "passed,":
            passed += int(words[0])
            failed += int(words[2])
    print(f"{passed} passed, {failed} failed", flush=True)
    return 0 if names and all(is_good for _, is_good in told) else 1


if __name__ == "__main__":
    sys.exit(main(sys.argv[1]) if len(sys.argv) == 2 else run_file(sys.argv[1], sys.argv[2]))
