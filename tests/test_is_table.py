"""[0.3], [0.4], [0.5], [1.1]: is_table and is_channel, of any thing."""

import copy
import itertools
import unittest

import helpers
from mistakesigns.tables import is_channel, is_table

# By repr, which tells 1 from True and a tuple from a list, unlike ==.
TABLES = {repr(table) for table in helpers.small_tables(6)}
ROWS = {repr(row) for size in range(1, 7) for row in itertools.combinations(range(6), size)}


def is_channel_by_repr(thing):
    return type(thing) is tuple and 1 <= len(thing) <= 6 and all(repr(row) in ROWS for row in thing)


class IsTable(unittest.TestCase):
    def test_all_tables_are(self):
        for table in helpers.small_tables(6):
            self.assertIs(is_table(table), True, table)

    def test_things_near_tables(self):
        seen = [0, 0]
        for table in itertools.chain(helpers.small_tables(3), helpers.some_tables(5, 40), [helpers.RING6]):
            for thing in helpers.changes(table):
                due = repr(thing) in TABLES
                seen[due] += 1
                self.assertIs(is_table(thing), due, thing)
        self.assertGreater(min(seen), 100)

    def test_many_is_from_1_to_6(self):
        for many in range(-3, 12):
            self.assertIs(is_table((many, ())), 1 <= many <= 6, many)
        self.assertIs(is_table((7, ((0, 1),))), False)
        self.assertIs(is_table((10 ** 30, ())), False)

    def test_truths_are_no_whole_numbers(self):
        for thing in ((True, ()), (2, ((False, 1),)), (2, ((0, True),)), (3, ((True, 2),)), (False, ())):
            self.assertIs(is_table(thing), False, thing)

    def test_lists_are_no_tuples(self):
        for thing in ([2, ()], (2, []), (2, ([0, 1],)), (2, [(0, 1)]), [2, [[0, 1]]]):
            self.assertIs(is_table(thing), False, thing)

    def test_pairs_rise_and_stand_once(self):
        for pairs in (((0, 2), (0, 1)), ((1, 2), (0, 1)), ((0, 1), (0, 1)), ((0, 1), (1, 2), (1, 2))):
            self.assertIs(is_table((3, pairs)), False, pairs)

    def test_one_is_less_than_other(self):
        for pair in ((1, 0), (1, 1), (2, 0), (0, 0)):
            self.assertIs(is_table((3, (pair,))), False, pair)

    def test_signs_are_of_the_table(self):
        for many, pair in ((1, (0, 1)), (2, (0, 2)), (3, (2, 3)), (6, (0, 6)), (3, (-1, 0)), (3, (-2, -1))):
            self.assertIs(is_table((many, (pair,))), False, (many, pair))

    def test_other_kinds_and_lengths(self):
        for thing in (None, 1, True, "", "2:01", (), (2,), (2, (), ()), (2, None), (None, ()), ("2", ()), (2, "01"),
                      (2, ("01",)), (3, ((0, 1, 2),)), (3, ((0,),)), (3, ((),)), (3, (0, 1)), ((), 2), (2, ((0, "1"),)),
                      (3, ((0, 1), None)), (3, ((0, 1), "ab")), (3, (None, (0, 1)))):
            self.assertIs(is_table(thing), False, thing)

    def test_what_is_asked_is_not_changed(self):
        for thing in ([2, [[0, 1]]], (2, [(0, 1)]), [[[[[3]]]]]):
            kept = copy.deepcopy(thing)
            self.assertIs(is_table(thing), is_table(thing))
            self.assertIs(is_channel(thing), is_channel(thing))
            self.assertEqual(thing, kept)


class IsChannel(unittest.TestCase):
    def test_channels_are(self):
        rows = [row for size in range(1, 7) for row in itertools.combinations(range(6), size)]
        for row in rows:
            for many in range(1, 7):
                self.assertIs(is_channel((row,) * many), True)
        for some in itertools.product(rows[::5], repeat=3):
            self.assertIs(is_channel(some), True, some)

    def test_things_near_channels(self):
        seen = [0, 0]
        for channel in (((0,),), ((5,),), ((0, 1), (1, 2)), ((1, 2, 5), (0,), (3, 4)), ((0, 1, 2, 3, 4, 5),) * 6):
            for thing in helpers.changes(channel):
                due = is_channel_by_repr(thing)
                seen[due] += 1
                self.assertIs(is_channel(thing), due, thing)
        self.assertGreater(min(seen), 30)

    def test_signs_are_from_1_to_6(self):
        for many in range(12):
            self.assertIs(is_channel(((0,),) * many), 1 <= many <= 6, many)

    def test_letters_are_from_0_to_5(self):
        for letter in range(-3, 12):
            self.assertIs(is_channel(((letter,),)), 0 <= letter <= 5, letter)
        self.assertIs(is_channel(((0, 2), (1, 6))), False)
        self.assertIs(is_channel(((-1, 2), (1,))), False)

    def test_letters_rise_and_are_some(self):
        for letters in ((), (1, 0), (1, 1), (0, 2, 1), (0, 0, 1)):
            self.assertIs(is_channel((letters,)), False, letters)
            self.assertIs(is_channel(((0,), letters)), False, letters)

    def test_other_kinds(self):
        for thing in (None, 0, True, "", "0", (), [], [(0,)], ([0],), ((True,),), ((False, 1),), ((0, True),), (("0",),),
                      ((None,),), (0,), ("0",), ((0,), None), ((0,), 1), (((0,),),), ((0, "1"),), ((0, None),)):
            self.assertIs(is_channel(thing), False, thing)


if __name__ == "__main__":
    unittest.main()
