"""Runs every test of the project and every one under ../shared/tests, and tells how many passed and failed."""

import pathlib
import sys
import unittest

ROOT = pathlib.Path(__file__).resolve().parent.parent
SHARED = ROOT.parent / "shared" / "tests"


class Counting(unittest.TextTestResult):
    """Counts the tests that failed or went wrong, each once, be it in itself or in its subtests."""

    def __init__(self, *given, **more):
        super().__init__(*given, **more)
        self.wrong = set()

    def addFailure(self, test, err):
        super().addFailure(test, err)
        self.wrong.add(test.id())

    def addError(self, test, err):
        super().addError(test, err)
        self.wrong.add(test.id())

    def addSubTest(self, test, subtest, err):
        super().addSubTest(test, subtest, err)
        if err is not None:
            self.wrong.add(test.id())

    def addUnexpectedSuccess(self, test):
        super().addUnexpectedSuccess(test)
        self.wrong.add(test.id())


def main():
    sys.dont_write_bytecode = True
    sys.path.insert(0, str(ROOT))
    suite = unittest.TestSuite()
    suite.addTests(unittest.TestLoader().discover(str(ROOT / "tests"), "test_*.py", str(ROOT)))
    if SHARED.is_dir() and list(SHARED.glob("test_*.py")):
        suite.addTests(unittest.TestLoader().discover(str(SHARED), "test_*.py", str(SHARED)))
    result = unittest.TextTestRunner(stream=sys.stdout, resultclass=Counting).run(suite)
    wrong = len(result.wrong)
    # Errors of loading a file stand in no test that ran.
    passed = max(0, result.testsRun - wrong - len(result.skipped))
    print(f"{passed} passed, {wrong} failed, {len(result.skipped)} skipped")
    sys.exit(0 if result.wasSuccessful() and passed else 1)


if __name__ == "__main__":
    main()
