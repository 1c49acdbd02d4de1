"""[1.1], [1.2]: what is told of tables and channels."""

import itertools
import unittest

import helpers
from mistakesigns.tables import channel_of, is_channel, is_table, mixed, near, part, renamed, table_of, turned
from mistakesigns.words import power


class Mixed(unittest.TestCase):
    def test_all_small_tables(self):
        for table in itertools.chain(helpers.small_tables(4), helpers.some_tables(6, 300)):
            couples = helpers.links(table)
            for one, other in itertools.product(range(table[0]), repeat=2):
                self.assertIs(mixed(table, one, other), (one, other) in couples)

    def test_ring(self):
        self.assertIs(mixed(helpers.RING5, 0, 4), True)
        self.assertIs(mixed(helpers.RING5, 4, 0), True)
        self.assertIs(mixed(helpers.RING5, 3, 3), True)
        self.assertIs(mixed(helpers.RING5, 0, 2), False)
        self.assertIs(mixed(helpers.RING5, 3, 1), False)

    def test_a_told_table_with_more_signs(self):
        told = power(helpers.RING5, 2)
        couples = helpers.links(told)
        for one, other in itertools.product(range(25), repeat=2):
            self.assertIs(mixed(told, one, other), (one, other) in couples)


class Near(unittest.TestCase):
    def test_all_small_tables(self):
        for table in itertools.chain(helpers.small_tables(4), helpers.some_tables(6, 300)):
            couples = helpers.links(table)
            for sign in range(table[0]):
                due = tuple(other for other in range(table[0]) if (sign, other) in couples)
                self.assertEqual(near(table, sign), due)

    def test_ring(self):
        self.assertEqual(near(helpers.RING5, 0), (0, 1, 4))
        self.assertEqual(near(helpers.RING5, 3), (2, 3, 4))
        self.assertEqual(near((1, ()), 0), (0,))

    def test_a_told_table_with_more_signs(self):
        self.assertEqual(near(power(helpers.RING5, 2), 0), (0, 1, 4, 5, 6, 9, 20, 21, 24))


class Turned(unittest.TestCase):
    def test_all_small_tables(self):
        for table in itertools.chain(helpers.small_tables(4), helpers.some_tables(6, 300)):
            other = turned(table)
            self.assertIs(is_table(other), True)
            self.assertEqual(other[0], table[0])
            self.assertEqual(set(other[1]) & set(table[1]), set())
            self.assertEqual(set(other[1]) | set(table[1]), set(itertools.combinations(range(table[0]), 2)))
            self.assertEqual(turned(other), table)

    def test_ring(self):
        self.assertEqual(turned(helpers.RING5), (5, ((0, 2), (0, 3), (1, 3), (1, 4), (2, 4))))
        self.assertEqual(turned((1, ())), (1, ()))

    def test_a_told_table_with_more_signs(self):
        told = power((3, ()), 3)
        self.assertEqual(turned(told), (27, tuple(itertools.combinations(range(27), 2))))
        self.assertEqual(turned(turned(power(helpers.RING6, 2))), power(helpers.RING6, 2))


class Part(unittest.TestCase):
    def test_no_signs(self):
        for table in helpers.small_tables(3):
            self.assertEqual(part(table, ()), (0, ()))

    def test_signs_in_any_order(self):
        for table in itertools.chain(helpers.small_tables(4), [helpers.RING5]):
            couples = helpers.links(table)
            for size in range(table[0] + 1):
                for signs in itertools.permutations(range(table[0]), size):
                    due = tuple((one, other) for one, other in itertools.combinations(range(size), 2)
                                if (signs[one], signs[other]) in couples)
                    self.assertEqual(part(table, signs), (size, due))

    def test_ring(self):
        self.assertEqual(part(helpers.RING5, (4, 2, 0)), (3, ((0, 2),)))
        self.assertEqual(part(helpers.RING5, (3, 4, 2)), (3, ((0, 1), (0, 2))))
        self.assertEqual(part(helpers.RING5, (3,)), (1, ()))
        self.assertEqual(part(helpers.RING5, (0, 1, 2, 3, 4)), helpers.RING5)

    def test_a_told_table_with_more_signs(self):
        self.assertEqual(part(power(helpers.RING5, 2), (24, 0, 7, 12)), (4, ((0, 1), (2, 3))))


class Renamed(unittest.TestCase):
    def test_any_order_of_all_signs(self):
        for table in itertools.chain(helpers.small_tables(4), [helpers.RING5]):
            couples = helpers.links(table)
            for names in itertools.permutations(range(table[0])):
                other = renamed(table, names)
                self.assertIs(is_table(other), True)
                due = {(names[one], names[two]) for one, two in couples}
                self.assertEqual((other[0], helpers.links(other)), (table[0], due))

    def test_each_sign_is_called_by_its_place(self):
        self.assertEqual(renamed((3, ((0, 1),)), (2, 0, 1)), (3, ((0, 2),)))
        self.assertEqual(renamed((3, ((0, 1),)), (1, 2, 0)), (3, ((1, 2),)))
        self.assertEqual(renamed(helpers.PATH3, (1, 0, 2)), (3, ((0, 1), (0, 2))))
        self.assertEqual(renamed(helpers.RING5, (0, 1, 2, 3, 4)), helpers.RING5)


class Channels(unittest.TestCase):
    def test_table_of_any_channel(self):
        rows = [row for size in range(1, 4) for row in itertools.combinations(range(6), size)]
        for channel in itertools.product(rows[::3], repeat=3):
            due = tuple((one, other) for one, other in itertools.combinations(range(3), 2)
                        if set(channel[one]) & set(channel[other]))
            self.assertEqual(table_of(channel), (3, due))

    def test_table_of(self):
        self.assertEqual(table_of(((0,),)), (1, ()))
        self.assertEqual(table_of(((0, 1), (1, 2), (2, 3), (3, 4), (0, 4))), helpers.RING5)
        self.assertEqual(table_of(((5,), (5,), (0, 1, 5))), (3, ((0, 1), (0, 2), (1, 2))))
        self.assertEqual(table_of(((0, 2, 4), (1, 3, 5))), (2, ()))

    def test_channel_of(self):
        self.assertEqual(channel_of((1, ())), ((0,),))
        self.assertEqual(channel_of((2, ((0, 1),))), ((0, 2), (1, 2)))
        self.assertEqual(channel_of(helpers.PATH3), ((0, 3), (1, 3, 4), (2, 4)))
        self.assertEqual(channel_of(helpers.RING5), ((0, 5, 6), (1, 5, 7), (2, 7, 8), (3, 8, 9), (4, 6, 9)))

    def test_channel_of_all_small_tables(self):
        for table in itertools.chain(helpers.small_tables(4), helpers.some_tables(6, 300)):
            many, pairs = table
            due = tuple((sign,) + tuple(many + at for at, pair in enumerate(pairs) if sign in pair)
                        for sign in range(many))
            self.assertEqual(channel_of(table), due)

    def test_greater_letters_may_be_handed_in(self):
        for table in itertools.chain(helpers.small_tables(5), helpers.some_tables(6, 30)):
            self.assertEqual(table_of(channel_of(table)), table)
        self.assertIs(is_channel(channel_of(helpers.RING5)), False)
        self.assertIs(is_channel(channel_of(helpers.PATH3)), True)


if __name__ == "__main__":
    unittest.main()
