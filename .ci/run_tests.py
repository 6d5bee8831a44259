"""Runs the test files of one folder: `python3 .ci/run_tests.py FOLDER`. Fails also if it finds no test."""

import sys
import unittest


class Counting(unittest.TextTestResult):
    """Counts whole tests: one with several parts that fail is one that failed."""

    def __init__(self, *given, **more):
        super().__init__(*given, **more)
        self.wrong = set()

    def addError(self, test, err):
        self.wrong.add(test.id())
        super().addError(test, err)

    def addFailure(self, test, err):
        self.wrong.add(test.id())
        super().addFailure(test, err)

    def addSubTest(self, test, subtest, err):
        if err is not None:
            self.wrong.add(test.id())
        super().addSubTest(test, subtest, err)

    def addUnexpectedSuccess(self, test):
        self.wrong.add(test.id())
        super().addUnexpectedSuccess(test)


def main(folder):
    suite = unittest.TestLoader().discover(folder, pattern="test_*.py", top_level_dir=folder)
    result = unittest.TextTestRunner(stream=sys.stdout, resultclass=Counting).run(suite)
    skipped = len(result.skipped)
    passed = result.testsRun - len(result.wrong) - skipped
    print(f"{passed} passed, {len(result.wrong)} failed, {skipped} skipped")
    return 0 if result.wasSuccessful() and result.testsRun else 1


if __name__ == "__main__":
    sys.exit(main(sys.argv[1]))
