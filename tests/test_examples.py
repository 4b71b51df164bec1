"""The examples of the document. A line that begins with # tells what the line ahead of it returns."""

import pathlib

from tests.helpers import Case

FOLDER = pathlib.Path(__file__).parent / "examples"


class Examples(Case):
    def run_example(self, name, many):
        names = {}
        ahead = None
        checked = 0
        for line in (FOLDER / name).read_text(encoding="utf-8").splitlines():
            if line.startswith("# "):
                self.alike(eval(ahead, names), eval(line[2:], {}))
                checked += 1
                ahead = None
            elif line.startswith(("[", "openings(", "bounds_of(", "text_of_program(")):
                ahead = line
            else:
                exec(line, names)
        self.assertEqual(checked, many)

    def test_behind_7(self):
        self.run_example("behind_7.txt", 8)

    def test_behind_14(self):
        self.run_example("behind_14.txt", 3)

    def test_behind_20(self):
        self.run_example("behind_20.txt", 7)

    def test_behind_26(self):
        self.run_example("behind_26.txt", 7)

    def test_behind_28(self):
        self.run_example("behind_28.txt", 4)

    def test_behind_35(self):
        self.run_example("behind_35.txt", 5)

    def test_behind_40(self):
        self.run_example("behind_40.txt", 4)

    def test_behind_46(self):
        self.run_example("behind_46.txt", 4)

    def test_behind_55(self):
        self.run_example("behind_55.txt", 2)
