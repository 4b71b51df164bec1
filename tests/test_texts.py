"""[7] Texts."""

from stillranges import errors
from stillranges.texts import (
    deed_of_text, program_of_text, range_of_text, table_of_text, text_of_deed, text_of_program, text_of_range,
    text_of_table)
from tests.helpers import ALL_DEEDS, BIG, FAR, FULL, LOOP, Case, any_deed, any_program, any_span, dice

NAMES = ["x", "y", "z"]
SPANS = [(0, 0), (-3, 5), (None, 5), (None, -3), (0, None), (-1, None), (None, None), (-FAR, FAR), (10, 100)]
SPAN_TEXTS = ["0..0", "-3..5", "..5", "..-3", "0..", "-1..", "..", "-1" + "0" * 29 + "..1" + "0" * 29, "10..100"]
DEED_TEXTS = [
    "go", "x := -4", "x := y + 2", "y := y - 3", "x := 5 - z", "z := 0 - z", "y := -1..1", "z := 3..3",
    "x := least y z", "x := least x z", "z := least y y", "y := greatest x z", "x := greatest x x",
    "z := greatest y z", "x <= 1", "y >= -1", "x <= y + 1", "z <= x - 2", "y = z + 0", "x = y - 1"]
SIGNS = " 0123-+.:=<>\nxyzwg\t"


def bent(text):
    """All strings that come of a text by one sign left out, put in, or changed, or two changed about."""
    for at in range(len(text) + 1):
        for sign in SIGNS:
            yield text[:at] + sign + text[at:]
            yield text[:at] + sign + text[at + 1:]
        yield text[:at] + text[at + 1:]
        yield text[:at] + text[at:at + 2][::-1] + text[at + 2:]


class Texts(Case):
    def only_texts(self, text, told, read):
        """Whatever a bent text is read as has just this text; all else is refused."""
        for changed in bent(text):
            try:
                value = read(changed)
            except errors.InvalidText as caught:
                self.assertIs(caught.value, changed)
            else:
                self.assertEqual(told(value), changed)

    def test_ranges(self):
        for span, text in zip(SPANS, SPAN_TEXTS):
            self.alike(text_of_range(span), text)
            self.alike(range_of_text(text), span)
            self.only_texts(text, text_of_range, range_of_text)

    def test_no_range(self):
        for text in ("", ".", "...", "....", "1", "1...2", "2..1", "00..1", "01..2", "-0..1", "0..-0", "+1..2", "1..+2",
                     " 1..2", "1..2 ", "1 ..2", "1.. 2", "1..2\n", "\n..", "1..2..3", "--1..2", "-..2", "1..-", "1..x",
                     "none", "1..2,", "0x1..2", "1_0..20", "1\t..2"):
            self.refused(errors.InvalidText, text, range_of_text, text)

    def test_deeds(self):
        for deed, text in zip(ALL_DEEDS, DEED_TEXTS):
            self.alike(text_of_deed(NAMES, deed), text)
            self.alike(deed_of_text(NAMES, text), deed)
            self.only_texts(text, lambda value: text_of_deed(NAMES, value), lambda told: deed_of_text(NAMES, told))

    def test_deeds_of_names_that_are_words(self):
        names = ["go", "least", "none"]
        for deed, text in ((("add", "least", "least", 3), "least := least + 3"),
                           (("turn", "go", "least", -3), "go := -3 - least"),
                           (("least", "least", "least", "least"), "least := least least least"),
                           (("equal", "go", "none", -1), "go = none - 1"), (("go",), "go"),
                           (("upto", "none", 0), "none <= 0")):
            self.alike(text_of_deed(names, deed), text)
            self.alike(deed_of_text(names, text), deed)

    def test_no_deed(self):
        for text in ("", " ", "stay", "Go", " go", "go ", "go\n", "x", "x :=", "x := ", "x = 3", "x < 3", "x := y",
                     "x := y + -1", "x := y - 0", "x := y - -1", "x := y + 01", "x := y +1", "x := y+1", "x  := 3",
                     "x := +3", "x := 03", "x := -0", "x := 3\n", "x:= 3", "w := 3", "x := w + 1", "x := y * 2",
                     "x := 1 + y", "x := 3 - w", "x := 3 - 4", "x := y - z", "x := -0 - y", "x := least y", "x := least",
                     "x := least y z z", "x := least  y z", "x := Least y z", "x := least y w", "x := least y 3",
                     "x <= y", "x >= y + 1", "x <= x + 1", "x = x + 0", "x = y", "x = 3 - y", "x <= 3 - y",
                     "x <= least y z", "x := 3..2", "x := ...", "x <= 1..2", "x := add y 2", "x := y + 1 + 1"):
            self.refused(errors.InvalidText, text, deed_of_text, NAMES, text)

    def test_programs(self):
        text = "names: i\nstart: 0..0\nplaces: 3\n0 -> 1: i <= 9\n1 -> 0: i := i + 1\n0 -> 2: i >= 10\n"
        self.alike(text_of_program(LOOP), text)
        self.alike(program_of_text(text), LOOP)
        self.only_texts(text, text_of_program, program_of_text)
        for program in (FULL, BIG, (["a"], 13, [(None, None)], []), (["a"], FAR, [(0, 0)], [])):
            self.alike(program_of_text(text_of_program(program)), program)
        full = text_of_program(FULL).split("\n")
        self.alike(full[:4] + full[-2:], ["names: x y z", "start: 0..1 -2..0 1..1", "places: 4", "0 -> 1: go",
                                          "1 -> 3: x = y - 1", ""])
        self.alike([line.partition(": ")[2] for line in full[3:-1]], DEED_TEXTS)

    def test_no_program(self):
        good = "names: a b\nstart: 0..0 ..\nplaces: 2\n0 -> 1: go\n"
        self.assertEqual(text_of_program(program_of_text(good)), good)
        for text in ("", "\n", good[:-1], good + "\n", "\n" + good, good.replace("\n", "\n\n"), good.replace("\n", " \n"),
                     good.replace("2", "02"), good.replace("2", "1"), good.replace("2", "0"), good.replace("2", "-2"),
                     good.replace("a b", "b a"), good.replace("a b", "a a"), good.replace("a b", "a  b"),
                     good.replace("a b", "a"), good.replace(" ..", ""), good.replace(" ..", " .. .."),
                     good.replace("->", ">"), good.replace("-> 1", "-> 2"), good.replace("0 ->", "-0 ->"),
                     good.replace("0 ->", "00 ->"), good.replace("0 ->", "0  ->"), good.replace(": go", ":go"),
                     good.replace(": go", ":  go"), good.replace(": go", ": c := 1"), good.replace("names", "name"),
                     good.replace("start", "Start"), good.replace("places", "place"), good.replace("names: a b", "names:"),
                     "start: 0..0 ..\nnames: a b\nplaces: 2\n", "names: a\nstart: ..\nplaces: 1"):
            self.refused(errors.InvalidText, text, program_of_text, text)

    def test_tables(self):
        table = [[(0, 10)], None, [(None, None)]]
        text = "0: 0..10\n1: none\n2: ..\n"
        self.alike(text_of_table(LOOP, table), text)
        self.alike(table_of_text(LOOP, text), table)
        self.only_texts(text, lambda value: text_of_table(LOOP, value), lambda told: table_of_text(LOOP, told))
        wide = (["a"], 13, [(0, 0)], [])
        self.alike(table_of_text(wide, text_of_table(wide, [None] * 12 + [[(-FAR, -1)]])), [None] * 12 + [[(-FAR, -1)]])
        self.alike(text_of_table(wide, [None] * 13).split("\n")[11:], ["11: none", "12: none", ""])
        self.alike(text_of_table(BIG, [[(0, 0), (None, 1)], None]), "0: 0..0 ..1\n1: none\n")

    def test_no_table(self):
        good = "0: 0..10\n1: none\n2: ..\n"
        for text in ("", good[:-1], good + "\n", good + "3: none\n", "0: 0..10\n1: none\n", good.replace("none", "None"),
                     good.replace("none", ""), good.replace("1: none", "1:none"), good.replace("1:", "01:"),
                     good.replace("2:", "3:"), good.replace(": 0", ":  0"), good.replace("10", "10 0..0"),
                     good.replace("none", "none none"), good.replace("0..10", "10..0"), good.replace("\n", " \n"),
                     "1: none\n0: 0..10\n2: ..\n", good.replace("0..10", "-0..10"), good.replace("none", "none 0..0")):
            self.refused(errors.InvalidText, text, table_of_text, LOOP, text)

    def test_all_sorts_are_read_back(self):
        chance = dice(7)
        seen = {}
        for _ in range(3000):
            deed = any_deed(chance, NAMES, endless=0.3)
            text = text_of_deed(NAMES, deed)
            self.alike(deed_of_text(NAMES, text), deed)
            self.assertEqual(seen.setdefault(text, deed), deed)
        for _ in range(100):
            program = any_program(chance, names=3, places=4, steps=6, endless=0.3)
            self.alike(program_of_text(text_of_program(program)), program)
            table = [chance.choice([None, [any_span(chance, endless=0.3) for _ in range(3)]]) for _ in range(4)]
            self.alike(table_of_text(program, text_of_table(program, table)), table)

    def test_numbers_of_many_figures(self):
        for number in (10 ** 63, 10 ** 64 - 1, 10 ** 64, 10 ** 64 + 7, 3 * 10 ** 128 + 10 ** 64, 10 ** 3990):
            shown = str(number)
            self.alike(text_of_range((-number, number)), f"-{shown}..{shown}")
            self.alike(range_of_text(f"-{shown}..{shown}"), (-number, number))
        far = 10 ** 9000 + 5
        self.assertTrue(range_of_text(text_of_range((far, None))) == (far, None))
