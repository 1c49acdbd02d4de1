"""[5.1]: tables alike but for names, and tables made of two."""

import itertools
import unittest

import helpers
from mistakesigns.kinds import all_kinds, alike, beside, form, renaming, times, turns
from mistakesigns.most import most
from mistakesigns.tables import is_table, mixed, near, part, renamed, turned
from mistakesigns.words import is_code, power, words

TRIED = list(helpers.small_tables(4)) + helpers.some_tables(5, 60)


def called(table, names):
    """A table by names, told anew from its links."""
    couples = helpers.links(table)
    back = {name: sign for sign, name in enumerate(names)}
    return (table[0], tuple(pair for pair in itertools.combinations(range(table[0]), 2)
                            if (back[pair[0]], back[pair[1]]) in couples))


def orders(many):
    return itertools.permutations(range(many))


def all_makings(one, other):
    """All names that make one table the other, rising."""
    return [names for names in orders(one[0]) if called(one, names) == other]


class Form(unittest.TestCase):
    def test_tables(self):
        for table in itertools.chain(TRIED, helpers.some_tables(6, 4000)):
            self.assertEqual(form(table), min(called(table, names) for names in orders(table[0])), table)

    def test_few(self):
        self.assertEqual(form((3, ((1, 2),))), (3, ((0, 1),)))
        self.assertEqual(form(helpers.PATH3), (3, ((0, 1), (0, 2))))
        self.assertEqual(form(helpers.RING5), (5, ((0, 1), (0, 2), (1, 3), (2, 4), (3, 4))))
        self.assertEqual(form((4, ((0, 3), (1, 2)))), (4, ((0, 1), (2, 3))))

    def test_no_pairs_and_all_pairs(self):
        for many in range(1, 7):
            self.assertEqual(form((many, ())), (many, ()))
            self.assertEqual(form(helpers.full(many)), helpers.full(many))

    def test_names_do_not_matter(self):
        for table in (helpers.RING5, helpers.RING6, turned(helpers.RING6)):
            for names in itertools.islice(orders(table[0]), 0, None, 37):
                self.assertEqual(form(renamed(table, names)), form(table))


class Renaming(unittest.TestCase):
    def test_all_of_few_signs(self):
        tables = list(helpers.small_tables(3)) + helpers.some_tables(4, 3)
        for one, other in itertools.product(tables, repeat=2):
            found = all_makings(one, other) if one[0] == other[0] else []
            due = found[0] if found else None
            self.assertEqual(renaming(one, other), due, (one, other))
            self.assertIs(alike(one, other), due is not None)
            self.assertIs(alike(one, other), form(one) == form(other))

    def test_more_signs(self):
        for table in itertools.chain(helpers.some_tables(5, 120), helpers.some_tables(6, 9000)):
            names = (2, 4, 1, 0, 3, 5)[:table[0]]
            other = called(table, names)
            self.assertEqual(renaming(table, other), all_makings(table, other)[0])
            self.assertEqual(renamed(table, renaming(table, other)), other)

    def test_which_way(self):
        # Sign 0 of the first is alone, sign 2 of the second: names tell for each sign of the first what it is called.
        self.assertEqual(renaming((3, ((1, 2),)), (3, ((0, 1),))), (2, 0, 1))
        self.assertEqual(renaming((3, ((0, 1),)), (3, ((1, 2),))), (1, 2, 0))
        self.assertEqual(renaming((4, ((0, 1), (1, 2), (2, 3))), (4, ((0, 2), (1, 2), (1, 3)))), (0, 2, 1, 3))

    def test_the_least_names(self):
        self.assertEqual(renaming(helpers.RING5, helpers.RING5), (0, 1, 2, 3, 4))
        self.assertEqual(renaming(helpers.RING5, turned(helpers.RING5)), (0, 2, 4, 1, 3))

    def test_none(self):
        self.assertIsNone(renaming(helpers.RING6, turned(helpers.RING6)))
        self.assertIsNone(renaming((3, ()), (3, ((0, 1),))))
        # As many pairs, and each sign in two of them.
        threes = (6, ((0, 1), (0, 2), (1, 2), (3, 4), (3, 5), (4, 5)))
        self.assertIsNone(renaming(helpers.RING6, threes))
        self.assertIs(alike(helpers.RING6, threes), False)

    def test_unlike_numbers_of_signs(self):
        for one, other in itertools.permutations(range(1, 7), 2):
            self.assertIsNone(renaming((one, ()), (other, ())))
            self.assertIs(alike((one, ()), (other, ())), False)
        self.assertIsNone(renaming((2, ((0, 1),)), (3, ((0, 1),))))
        self.assertIsNone(renaming((3, ((0, 1),)), (2, ((0, 1),))))


class Turns(unittest.TestCase):
    def test_tables(self):
        for table in itertools.chain(TRIED, helpers.some_tables(6, 6000)):
            self.assertEqual(turns(table), len(all_makings(table, table)), table)

    def test_no_pairs_and_all_pairs(self):
        for many, due in ((1, 1), (2, 2), (3, 6), (4, 24), (5, 120), (6, 720)):
            self.assertEqual(turns((many, ())), due)
            self.assertEqual(turns(helpers.full(many)), due)

    def test_rings(self):
        self.assertEqual(turns((3, ((0, 1), (0, 2), (1, 2)))), 6)
        self.assertEqual(turns((4, ((0, 1), (0, 3), (1, 2), (2, 3)))), 8)
        self.assertEqual(turns(helpers.RING5), 10)
        self.assertEqual(turns(helpers.RING6), 12)

    def test_names_that_make_only_itself(self):
        self.assertEqual(turns((6, ((0, 1), (1, 2), (1, 3), (2, 3), (3, 4), (4, 5)))), 1)
        self.assertEqual(turns(helpers.PATH3), 2)


class AllKinds(unittest.TestCase):
    def test_how_many(self):
        self.assertEqual([len(all_kinds(many)) for many in range(1, 5)], [1, 2, 4, 11])

    def test_the_forms_rising(self):
        for many in range(1, 5):
            due = {min(called(table, names) for names in orders(many)) for table in helpers.tables(many)}
            self.assertEqual(all_kinds(many), tuple(sorted(due)))

    def test_few(self):
        self.assertEqual(all_kinds(1), ((1, ()),))
        self.assertEqual(all_kinds(2), ((2, ()), (2, ((0, 1),))))
        self.assertEqual(all_kinds(3), (
            (3, ()), (3, ((0, 1),)), (3, ((0, 1), (0, 2))), (3, ((0, 1), (0, 2), (1, 2)))))


class Beside(unittest.TestCase):
    def test_tables(self):
        for one, other in itertools.product(helpers.small_tables(3), repeat=2):
            many = one[0]
            due = tuple(sorted(one[1] + tuple((many + low, many + high) for low, high in other[1])))
            self.assertEqual(beside(one, other), (many + other[0], due))

    def test_few(self):
        self.assertEqual(beside((2, ((0, 1),)), helpers.PATH3), (5, ((0, 1), (2, 3), (3, 4))))
        self.assertEqual(beside((1, ()), (2, ((0, 1),))), (3, ((1, 2),)))
        self.assertEqual(beside((2, ((0, 1),)), (1, ())), (3, ((0, 1),)))

    def test_more_than_six_signs(self):
        told = beside(helpers.RING5, helpers.RING6)
        self.assertEqual(told, (11, helpers.RING5[1] + (
            (5, 6), (5, 10), (6, 7), (7, 8), (8, 9), (9, 10))))
        self.assertEqual(most(told, 1), 5)
        self.assertEqual(near(told, 5), (5, 6, 10))
        self.assertIs(mixed(told, 4, 5), False)
        self.assertIs(mixed(told, 10, 9), True)
        self.assertEqual(part(told, (0, 1, 2, 3, 4)), helpers.RING5)
        self.assertEqual(part(told, tuple(range(5, 11))), helpers.RING6)
        self.assertEqual(turned(turned(told)), told)
        self.assertEqual(beside(told, told)[0], 22)
        self.assertEqual(beside(beside(helpers.RING5, helpers.RING6), helpers.PATH3),
                         beside(helpers.RING5, beside(helpers.RING6, helpers.PATH3)))
        self.assertEqual(power(told, 2)[0], 121)
        self.assertEqual(power(told, 1), told)

    def test_the_table_of_no_sign(self):
        none = part(helpers.RING5, ())
        self.assertEqual(beside(none, helpers.RING5), helpers.RING5)
        self.assertEqual(beside(helpers.RING5, none), helpers.RING5)


class Times(unittest.TestCase):
    def test_tables(self):
        for one, other in itertools.product(helpers.small_tables(3), repeat=2):
            first, second = helpers.links(one), helpers.links(other)
            signs = list(itertools.product(range(one[0]), range(other[0])))
            due = tuple((low, high) for low, high in itertools.combinations(range(len(signs)), 2)
                        if (signs[low][0], signs[high][0]) in first and (signs[low][1], signs[high][1]) in second)
            self.assertEqual(times(one, other), (len(signs), due))

    def test_few(self):
        self.assertEqual(times((2, ((0, 1),)), (2, ())), (4, ((0, 2), (1, 3))))
        self.assertEqual(times((2, ()), (2, ((0, 1),))), (4, ((0, 1), (2, 3))))
        self.assertEqual(times((1, ()), helpers.RING5), helpers.RING5)
        self.assertEqual(times(helpers.RING5, (1, ())), helpers.RING5)
        self.assertIs(is_table(times((2, ((0, 1),)), helpers.PATH3)), True)

    def test_by_itself_it_is_the_power(self):
        for table in itertools.chain(helpers.small_tables(3), [helpers.RING5, helpers.RING6]):
            self.assertEqual(times(table, table), power(table, 2))
        self.assertEqual(times(power(helpers.PATH3, 2), helpers.PATH3), power(helpers.PATH3, 3))

    def test_more_than_six_signs(self):
        told = times(helpers.RING5, (3, ((0, 1),)))
        self.assertEqual(told[0], 15)
        self.assertEqual(most(told, 1), 4)
        self.assertEqual(near(told, 0), (0, 1, 3, 4, 12, 13))
        self.assertIs(mixed(told, 0, 2), False)
        self.assertIs(mixed(told, 13, 0), True)
        self.assertEqual(part(told, (2, 5, 8, 11, 14)), helpers.RING5)
        self.assertEqual(turned(turned(told)), told)
        self.assertEqual(len(words(told[0], 2)), 225)
        self.assertEqual(power(told, 1), told)
        self.assertEqual(times(told, (2, ()))[0], 30)
        self.assertEqual(beside(told, told)[0], 30)

    def test_the_ring_by_itself_has_more(self):
        told = times(helpers.RING5, helpers.RING5)
        self.assertIs(is_code(told, ((0,), (7,), (14,), (16,), (23,))), True)

    def test_the_table_of_no_sign(self):
        none = part(helpers.RING5, ())
        self.assertEqual(times(none, helpers.RING5), none)
        self.assertEqual(times(helpers.RING5, none), none)


if __name__ == "__main__":
    unittest.main()
