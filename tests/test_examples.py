"""The examples of the document. A line that begins with # tells what the line ahead of it returns."""

import pathlib

from tests.helpers import Case

FOLDER = pathlib.Path(__file__).parent / "examples"


class Examples(Case):
    def run_example(self, name, many):
        names = {}
        checked = 0
        lines = (FOLDER / name).read_text(encoding="utf-8").splitlines()
        for line, behind in zip(lines, lines[1:] + [""]):
            if behind.startswith("# "):
                self.alike(eval(line, names), eval(behind[2:], {}))
                checked += 1
            elif not line.startswith("# "):
                exec(line, names)
        self.assertEqual(checked, many)

    def test_behind_7(self):
        self.run_example("behind_7.txt", 8)

    def test_behind_14(self):
        self.run_example("behind_14.txt", 3)

    def test_behind_20(self):
        self.run_example("behind_20.txt", 7)

    def test_behind_26(self):
        self.run_example("behind_26.txt", 7)

    def test_behind_28(self):
        self.run_example("behind_28.txt", 4)

    def test_behind_35(self):
        self.run_example("behind_35.txt", 5)

    def test_behind_40(self):
        self.run_example("behind_40.txt", 4)

    def test_behind_46(self):
        self.run_example("behind_46.txt", 4)

    def test_behind_55(self):
        self.run_example("behind_55.txt", 2)

    def test_behind_60(self):
        self.run_example("behind_60.txt", 5)

    def test_behind_66(self):
        self.run_example("behind_66.txt", 5)

    def test_behind_71(self):
        self.run_example("behind_71.txt", 4)

    def test_behind_77(self):
        self.run_example("behind_77.txt", 5)

    def test_behind_81(self):
        self.run_example("behind_81.txt", 4)

    def test_all_examples_are_run(self):
        told = ["7", "14", "20", "26", "28", "35", "40", "46", "55", "60", "66", "71", "77", "81"]
        self.assertEqual(sorted(path.name for path in FOLDER.iterdir()), sorted(f"behind_{number}.txt" for number in told))
        for number in told:
            self.assertIn(f"test_behind_{number}", dir(self))
