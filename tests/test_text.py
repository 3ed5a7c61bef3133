"""Point 22: lists, and what values bring, as text."""

import random
import unittest

from midwalk.errors import InvalidBrings, InvalidText, InvalidValues
from midwalk.grows import grown_at_end
from midwalk.text import format_brings, format_values, parse_brings, parse_values
from tests.common import TWENTY, Odd, expect, long_lists, short_lists, wrong_brings, wrong_values
from tests.growing import drawn_cases, some_edges

WORDS_THAT_ARE_NONE = ["", " ", "+1", "+", "-", "-0", "--1", "+-1", "-+1", "00", "01", "-01", "0x1", "1_0", "1.0", "1e3",
                       "x", "1x", "x1", "1,", "1-", "1-2", "(1)", "None", "True", ":", "1:", ":1", "1;2", "'1'", "~"]
NUMBERS = [0, 1, -1, 9, 10, -10, 100, 907, TWENTY, -TWENTY, 10 ** 19, -10 ** 19]


def not_strings():
    return [None, True, 0, 1.5, b"", b"1", b"1:", [], ["1"], (), {}, {1: []}, {"1"}, Odd(), str]


class ValuesTest(unittest.TestCase):

    def test_what_is_written(self):
        self.assertEqual(format_values([]), "")
        self.assertEqual(format_values([0]), "0")
        self.assertEqual(format_values([4, -5]), "4 -5")
        self.assertEqual(format_values([TWENTY, -TWENTY, 0, 0]), "9" * 20 + " -" + "9" * 20 + " 0 0")
        self.assertEqual(format_values([1] * 120), "1 " * 119 + "1")

    def test_what_is_read(self):
        self.assertEqual(parse_values(""), [])
        self.assertEqual(parse_values("0"), [0])
        self.assertEqual(parse_values("4 -5"), [4, -5])
        for number in NUMBERS:
            self.assertEqual(parse_values(str(number)), [number])
            self.assertEqual(parse_values(f"{number} {number}"), [number, number])

    def test_what_is_written_is_read_back(self):
        for values in short_lists([-10, 0, 3], 4):
            self.assertEqual(parse_values(format_values(values)), values)
        for _, values in long_lists(200, 1):
            text = format_values(values)
            self.assertEqual(parse_values(text), values)
            self.assertEqual(format_values(parse_values(text)), text)
        for values in ([TWENTY] * 120, [-TWENTY] * 120):
            self.assertEqual(parse_values(format_values(values)), values)

    def test_what_a_loop_leaves(self):
        values = grown_at_end({1: [-2, 3]}, [1] * 30)
        self.assertEqual(parse_values(format_values(values)), values)
        expect(self, InvalidValues, "index", None, format_values, grown_at_end({1: [2]}, [1] * 61))

    def test_words_that_are_no_numbers(self):
        for word in WORDS_THAT_ARE_NONE:
            for text in (word, "1 " + word, word + " 1", "1 " + word + " -2"):
                if text:
                    expect(self, InvalidText, "line", 0, parse_values, text)

    def test_blanks(self):
        for text in (" ", "  ", " 1", "1 ", "1  2", "1 2 ", " 1 2", "1   2"):
            expect(self, InvalidText, "line", 0, parse_values, text)

    def test_lines(self):
        for text in ("\n", "1\n", "\n1", "1\n2", "x\n", "\n\n", "1 2\n3", "1" + "\n" * 200):
            expect(self, InvalidText, "line", None, parse_values, text)

    def test_how_many(self):
        self.assertEqual(parse_values(" ".join(["7"] * 120)), [7] * 120)
        for many in (121, 122, 500):
            expect(self, InvalidText, "line", 0, parse_values, " ".join(["7"] * many))
        expect(self, InvalidText, "line", None, parse_values, " ".join(["7"] * 121) + "\n")

    def test_no_strings(self):
        for thing in not_strings():
            expect(self, InvalidText, "line", None, parse_values, thing)
            expect(self, InvalidText, "line", None, parse_values, text=thing)

    def test_wrong_values(self):
        for values, index in wrong_values():
            expect(self, InvalidValues, "index", index, format_values, values)

    def test_against_all_short_texts(self):
        written = {format_values(values) for values in short_lists([-21, -12, -2, -1, 0, 1, 2, 10, 12, 100], 2)}
        for text in short_lists("-0 12", 4):
            text = "".join(text)
            try:
                values = parse_values(text)
            except InvalidText:
                self.assertNotIn(text, written)
            else:
                self.assertEqual(format_values(values), text)


class BringsTest(unittest.TestCase):

    def test_what_is_written(self):
        self.assertEqual(format_brings({}), "")
        self.assertEqual(format_brings({0: []}), "0:")
        self.assertEqual(format_brings({3: [1, 2], 2: [], -1: [3]}), "-1: 3\n2:\n3: 1 2")
        self.assertEqual(format_brings({TWENTY: [-TWENTY], 10: [10, 9], 9: [0]}),
                         "9: 0\n10: 10 9\n" + "9" * 20 + ": -" + "9" * 20)

    def test_what_is_read(self):
        self.assertEqual(parse_brings(""), {})
        self.assertEqual(parse_brings("0:"), {0: []})
        self.assertEqual(parse_brings("-1: 3\n2:\n3: 1 2"), {-1: [3], 2: [], 3: [1, 2]})
        for number in NUMBERS:
            self.assertEqual(parse_brings(f"{number}:"), {number: []})
            self.assertEqual(parse_brings(f"{number}: {number} 0 {number}"), {number: [number, 0, number]})

    def test_what_is_written_is_read_back(self):
        cases = [brings for brings, _ in [*some_edges(), *drawn_cases(400, 2)]]
        cases += [{TWENTY - number: [-TWENTY] * 12 for number in range(12)}, {number: [] for number in range(-6, 6)}]
        for brings in cases:
            text = format_brings(brings)
            found = parse_brings(text)
            self.assertEqual(found, brings)
            self.assertEqual(list(found), sorted(brings))
            self.assertEqual(format_brings(found), text)
            self.assertEqual(len(text.split("\n")) if text else 0, len(brings))

    def wrong_line(self, line):
        """A line is wrong wherever it stands, unless those before it are, too."""
        for text, index in ((line, 0), ("-9: 5\n" + line, 1), (line + "\n9:", 0), ("-9:\n-8: 1 1\n" + line + "\nx", 2)):
            if text:
                expect(self, InvalidText, "line", index, parse_brings, text)

    def test_words_that_are_no_numbers(self):
        for word in WORDS_THAT_ARE_NONE:
            self.wrong_line(word + ":")
            self.wrong_line(word + ": 1")
            self.wrong_line("3: " + word)
            self.wrong_line("3: 1 " + word)
            self.wrong_line("3: " + word + " 1")

    def test_blanks_and_colons(self):
        for line in ("", " ", "3", "3 1", "3:1", "3 :", "3 : 1", "3: ", "3:  1", "3: 1 ", "3: 1  2", " 3: 1", " 3:", ":",
                     ": 1", "3:: 1", "3::", "3: 1:", "3: :", "3: 1: 2", "3:1 2", "3;", "3; 1", "3,", "3 1:"):
            self.wrong_line(line)

    def test_empty_lines(self):
        for text, index in (("\n", 0), ("\n1:", 0), ("1:\n", 1), ("1: 2\n\n3:", 1), ("1:\n2: 3\n", 2), ("\n\n", 0)):
            expect(self, InvalidText, "line", index, parse_brings, text)

    def test_keys_that_are_not_greater(self):
        for text, index in (("1:\n1:", 1), ("2:\n1:", 1), ("1: 5\n2:\n2: 6", 2), ("-1:\n-2:", 1), ("0:\n-1: 0\nx", 1),
                            ("9:\n10:\n9:", 2), ("1:\n3:\n2:\n1:", 2), (f"{TWENTY}:\n{TWENTY - 1}:", 1)):
            expect(self, InvalidText, "line", index, parse_brings, text)
        self.assertEqual(parse_brings("-2:\n-1:\n0:\n9:\n10:"), {-2: [], -1: [], 0: [], 9: [], 10: []})

    def test_how_many_are_brought(self):
        self.assertEqual(parse_brings("5: " + " ".join(["7"] * 12)), {5: [7] * 12})
        for many in (13, 14, 121):
            self.wrong_line("5: " + " ".join(["7"] * many))

    def test_how_many_lines(self):
        lines = [f"{number}: {number}" for number in range(14)]
        self.assertEqual(parse_brings("\n".join(lines[:12])), {number: [number] for number in range(12)})
        for many in (13, 14):
            expect(self, InvalidText, "line", None, parse_brings, "\n".join(lines[:many]))
        expect(self, InvalidText, "line", None, parse_brings, "x\n" * 12)
        expect(self, InvalidText, "line", None, parse_brings, "\n".join(lines[:12]) + "\n")
        expect(self, InvalidText, "line", 11, parse_brings, "\n".join(lines[:11]) + "\n")
        expect(self, InvalidText, "line", 0, parse_brings, "\n" * 11)
        expect(self, InvalidText, "line", None, parse_brings, "\n" * 12)

    def test_no_strings(self):
        for thing in not_strings():
            expect(self, InvalidText, "line", None, parse_brings, thing)
            expect(self, InvalidText, "line", None, parse_brings, text=thing)

    def test_wrong_brings(self):
        for brings, key in wrong_brings():
            expect(self, InvalidBrings, "key", key, format_brings, brings)
            expect(self, InvalidBrings, "key", key, format_brings, brings=brings)

    def test_against_all_short_texts(self):
        for text in short_lists("\n-0 1:", 5):
            text = "".join(text)
            try:
                brings = parse_brings(text)
            except InvalidText:
                continue
            self.assertEqual(format_brings(brings), text)

    def test_drawn_changes_of_texts(self):
        # A text that is read is the one that is written for what was read.
        draw = random.Random(3)
        read = 0
        for brings, _ in drawn_cases(600, 4):
            text = format_brings(brings)
            place = draw.randint(0, len(text))
            text = text[:place] + draw.choice("\n -0123456789:x") + text[place + draw.randint(0, 1):]
            try:
                found = parse_brings(text)
            except InvalidText:
                continue
            read += 1
            self.assertEqual(format_brings(found), text)
        self.assertGreater(read, 100)


if __name__ == "__main__":
    unittest.main()
