"""Run all tests, under each Python that is due and is here; the last line tells the counts."""

import glob
import json
import os
import shutil
import subprocess
import sys
import tempfile

ROOT = os.path.dirname(os.path.dirname(os.path.abspath(__file__)))
SHARED = os.path.join(os.path.dirname(ROOT), "shared", "tests")
RUN_FOLDER = os.path.join(ROOT, ".ci", "run_folder.py")

# The program has to behave the same under these.
VERSIONS = ("3.11", "3.13")


def version_of(python):
    """Return the version of a Python as "3.11", or None if it does not run."""
    asked = [python, "-c", "import sys; print('{}.{}'.format(*sys.version_info))"]
    answer = subprocess.run(asked, capture_output=True, text=True)
    return answer.stdout.strip() if answer.returncode == 0 else None


def pythons():
    """Return a dict of a Python for each version: the one that runs this, and others that are due."""
    found = {version_of(sys.executable): sys.executable}
    for version in VERSIONS:
        places = [shutil.which(f"python{version}")]
        places += sorted(glob.glob(os.path.expanduser(f"~/.pyenv/versions/{version}.*/bin/python{version}")))
        for place in places:
            if version not in found and place is not None and version_of(place) == version:
                found[version] = place
    return found


def folders():
    """Return the folder of the project's tests, and each one of the shared tests that holds some."""
    found = [os.path.join(ROOT, "tests")]
    for folder, _, files in sorted(os.walk(SHARED)):
        if any(name.startswith("test_") and name.endswith(".py") for name in files):
            found.append(folder)
    return found


def run_folder(python, folder):
    """Return how many tests of a folder passed and how many failed."""
    with tempfile.TemporaryDirectory() as place:
        told = os.path.join(place, "counts")
        answer = subprocess.run([python, RUN_FOLDER, folder, told], cwd=ROOT, stdin=subprocess.DEVNULL)
        if not os.path.exists(told):
            print(f"{folder}: stopped with {answer.returncode} ahead of its end")
            return 0, 1
        with open(told, encoding="utf-8") as file:
            counts = json.load(file)
    if folder == folders()[0] and counts["passed"] + counts["failed"] == 0:
        print(f"{folder}: no test was run")
        return 0, 1
    print(f"{folder}: {counts['passed']} passed, {counts['failed']} failed, {counts['skipped']} skipped")
    return counts["passed"], counts["failed"]


def main():
    passed = failed = 0
    for version, python in pythons().items():
        for folder in folders():
            print(f"== {folder}, Python {version}", flush=True)
            more_passed, more_failed = run_folder(python, folder)
            passed += more_passed
            failed += more_failed
    print(f"{passed} passed, {failed} failed", flush=True)
    return 1 if failed else 0


if __name__ == "__main__":
    sys.exit(main())
