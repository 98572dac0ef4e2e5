"""Run the tests of the folders that are named, and fail if one fails or if there are none.

A folder that does not exist or that holds no test is passed over.
"""

import sys
import unittest
from pathlib import Path

ROOT = Path(__file__).resolve().parent.parent


def folders_of_tests(folder):
    """Return each folder, at whatever depth, with files of tests."""
    return sorted({path.parent for path in Path(folder).resolve().rglob("test_*.py")})


def run_folder(folder):
    """Run the tests of one folder."""
    # The project's own tests are a package; the others stand alone.
    top = ROOT if folder == ROOT / "tests" else folder
    suite = unittest.TestLoader().discover(str(folder), pattern="test_*.py", top_level_dir=str(top))
    print(f"== {folder}", flush=True)
    return unittest.TextTestRunner(stream=sys.stdout).run(suite)


def main(names):
    """Run all tests and return the exit status."""
    sys.path.insert(0, str(ROOT))
    folders = [folder for name in names for folder in folders_of_tests(name)]
    results = [run_folder(folder) for folder in folders]
    ran = sum(result.testsRun for result in results)
    passed = ran > 0 and all(result.wasSuccessful() for result in results)
    print(f"{ran} tests ran; {'all passed' if passed else 'FAILED'}", flush=True)
    return 0 if passed else 1


if __name__ == "__main__":
    sys.exit(main(sys.argv[1:]))
