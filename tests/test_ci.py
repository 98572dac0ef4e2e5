"""Tests of the runner that .ci/run calls."""

import os
import subprocess
import sys
import tempfile
import unittest
from pathlib import Path

ROOT = Path(__file__).resolve().parent.parent
GOOD = """import unittest
from wheelsky.ratios import fraction

class GoodTest(unittest.TestCase):
    def test_one(self):
        self.assertEqual(fraction(2, 4), (1, 2))

    def test_two(self):
        pass
"""


class RunnerTest(unittest.TestCase):
    def run_with(self, files):
        """Run the tests of a folder with these files."""
        with tempfile.TemporaryDirectory() as folder:
            for name, text in files.items():
                (Path(folder) / name).write_text(text)
            command = [sys.executable, str(ROOT / "tests" / "run_all.py"), folder, folder + "/none"]
            quiet = dict(os.environ, PYTHONDONTWRITEBYTECODE="1")
            return subprocess.run(command, capture_output=True, text=True, cwd="/", env=quiet)

    def test_good_tests(self):
        done = self.run_with({"test_good.py": GOOD})
        self.assertEqual(done.returncode, 0)
        self.assertIn("2 tests ran; all passed", done.stdout)

    def test_one_test_fails(self):
        done = self.run_with({"test_good.py": GOOD, "test_worse.py": GOOD.replace("(1, 2)", "(2, 4)")})
        self.assertEqual(done.returncode, 1)
        self.assertIn("4 tests ran; FAILED", done.stdout)

    def test_a_file_that_cannot_be_imported(self):
        done = self.run_with({"test_good.py": GOOD, "test_worse.py": "import wheelsky.nothing\n"})
        self.assertEqual(done.returncode, 1)

    def test_no_test_at_all(self):
        self.assertEqual(self.run_with({"README.md": "Nothing."}).returncode, 1)

    def test_ci_calls_the_runner(self):
        script = (ROOT / ".ci" / "run").read_text()
        self.assertIn("exec python3 tests/run_all.py tests ../shared/tests\n", script)
        self.assertTrue(os.access(ROOT / ".ci" / "run", os.X_OK))
