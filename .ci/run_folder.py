"""Run the tests of one folder, each file test_*.py in it, and write the counts to a file."""

import json
import os
import sys
import unittest

ROOT = os.path.dirname(os.path.dirname(os.path.abspath(__file__)))


class Result(unittest.TextTestResult):
    """A result that counts each test once, however many of its parts fail."""

    def __init__(self, *given, **named):
        super().__init__(*given, **named)
        self.passed = 0
        self.failed = set()

    def addSuccess(self, test):
        super().addSuccess(test)
        self.passed += 1

    def addExpectedFailure(self, test, err):
        super().addExpectedFailure(test, err)
        self.passed += 1

    def addFailure(self, test, err):
        super().addFailure(test, err)
        self.failed.add(test.id())

    def addError(self, test, err):
        super().addError(test, err)
        self.failed.add(test.id())

    def addUnexpectedSuccess(self, test):
        super().addUnexpectedSuccess(test)
        self.failed.add(test.id())

    def addSubTest(self, test, subtest, err):
        super().addSubTest(test, subtest, err)
        if err is not None:
            self.failed.add(test.id())


def main(folder, told):
    sys.path[:1] = [folder, ROOT]
    names = sorted(name for name in os.listdir(folder) if name.startswith("test_") and name.endswith(".py"))
    tests = unittest.defaultTestLoader.loadTestsFromNames([name.removesuffix(".py") for name in names])
    result = unittest.TextTestRunner(resultclass=Result).run(tests)
    counts = {"passed": result.passed, "failed": len(result.failed), "skipped": len(result.skipped)}
    with open(told, "w", encoding="utf-8") as file:
        json.dump(counts, file)


if __name__ == "__main__":
    main(sys.argv[1], sys.argv[2])
