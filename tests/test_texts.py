"""[0.2] (g), [7.1]: tables as texts."""

import itertools
import unittest

import helpers
from mistakesigns.errors import MistakeError, NoSign, NoText
from mistakesigns.texts import read, written

# All tables by their texts, told anew.
TABLES = {str(table[0]) + ":" + ",".join(map("".join, [map(str, pair) for pair in table[1]])): table
          for table in helpers.small_tables(6)}

NO_TEXTS = (
    "", " ", ":", "::", ",", "3", "5", "01", "3 ", " 3", "a", "table", "None", "(2, ())", "-",
    # a blank
    " 3:", "3 :", "3: ", "3:01 ", "3: 01", "3:0 1", "3:01, 12", "3:01 ,12", "3:01 12", "3:01,12 ", " 3:01,12",
    # a comma too many, or too few
    "3:,", "3:,01", "3:01,", "3:01,,12", "3:,01,12", "3:01,12,", "3,:01", ",3:01", "3:0112", "3:0,1",
    # pairs that do not rise, that stand twice
    "3:12,01", "3:02,01", "3:01,12,02", "3:01,01", "3:01,12,12",
    # the greater sign first, a pair of one sign
    "3:10", "3:21", "3:01,21", "3:00", "3:22", "3:01,11",
    # signs beyond the table
    "1:01", "2:02", "3:03", "3:13", "6:06", "6:67", "5:45,56", "1:12",
    # no colon, two colons
    "3", "301", "3,01", "3;01", "3::", "3::01", "3:01:", "3:01:12", ":3:01", "3:0:1", "3:01,12:",
    # no figures
    ":01", "a:01", "3:ab", "3:0b", "3:a1", "x:", "?:", "+3:", "-3:", "3:-1", "3:+1", "3:0-", "3:(0,1)", "three:",
    # figures too many, figures too few
    "33:", "12:", "3:012", "3:0012", "3:01,012", "3:0", "3:1", "3:01,1", "3:1,12", "3:00,1", "2:001",
    # leading zeros
    "03:", "03:01", "00:", "003:", "3:0001", "3:0102",
    # no signs and seven signs
    "0:", "0:01", "7:", "7:01", "7:06", "8:", "9:", "10:", "16:", "-1:",
    # other signs of Python's numbers
    "3.:", "3.0:", "1_:", "3:0_1", "0x3:", "3:0e", "3e0:", "3:_1", "\"3:\"", "'3:'", "3:01'", "3:\\n", "3:01|12", "3/01",
)


class Written(unittest.TestCase):
    def test_all_tables(self):
        self.assertEqual(len(TABLES), 1 + 2 + 8 + 64 + 1024 + 32768)
        for text, table in TABLES.items():
            self.assertEqual(written(table), text)

    def test_few(self):
        self.assertEqual(written(helpers.RING5), "5:01,04,12,23,34")
        self.assertEqual(written((2, ((0, 1),))), "2:01")

    def test_no_pairs(self):
        for many in range(1, 7):
            self.assertEqual(written((many, ())), f"{many}:")


class Read(unittest.TestCase):
    def check(self, text):
        if text in TABLES:
            self.assertEqual(repr(read(text)), repr(TABLES[text]))
        else:
            with self.assertRaises(NoText, msg=text):
                read(text)

    def test_all_tables(self):
        for text, table in TABLES.items():
            self.assertEqual(read(text), table)

    def test_few(self):
        self.assertEqual(read("5:01,04,12,23,34"), helpers.RING5)
        self.assertEqual(read("1:"), (1, ()))
        self.assertEqual(read("6:"), (6, ()))

    def test_texts_that_are_no_tables(self):
        for text in NO_TEXTS:
            self.assertNotIn(text, TABLES)
            with self.assertRaises(NoText, msg=text) as caught:
                read(text)
            self.assertIsInstance(caught.exception, MistakeError)
            self.assertNotIsInstance(caught.exception, NoSign)

    def test_all_short_texts(self):
        for size in range(6):
            for signs in itertools.product("0127:, a", repeat=size):
                self.check("".join(signs))

    def test_texts_near_texts_of_tables(self):
        signs = [chr(code) for code in range(32, 127) if chr(code) != "%"]
        for text in ("1:", "3:", "2:01", "3:01,12", "6:05,34", "5:01,04,12,23,34"):
            for at in range(len(text) + 1):
                self.check(text[:at] + text[at + 1:])
                for sign in signs:
                    self.check(text[:at] + sign + text[at:])
                    self.check(text[:at] + sign + text[at + 1:])

    def test_long_texts(self):
        for text in ("3:" + "01," * 2000, "3" * 2000, ":" * 2000, " " * 2000, "6:" + "0" * 2000, "," * 2000):
            self.check(text)


if __name__ == "__main__":
    unittest.main()
