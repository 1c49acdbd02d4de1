"""[0.2] (b), [3.1]: codes with the most words."""

import itertools
import unittest

import helpers
from mistakesigns.most import all_best, best_code, most, needed
from mistakesigns.tables import turned
from mistakesigns.words import is_code, power

RING7 = (7, ((0, 1), (0, 6), (1, 2), (2, 3), (3, 4), (4, 5), (5, 6)))
PETERSEN = (10, ((0, 1), (0, 4), (0, 5), (1, 2), (1, 6), (2, 3), (2, 7), (3, 4), (3, 8), (4, 9),
                 (5, 7), (5, 8), (6, 8), (6, 9), (7, 9)))


def plain_best(table):
    """All largest rising tuples of signs, no two linked."""
    couples = helpers.links(table)
    for size in range(table[0], -1, -1):
        found = tuple(signs for signs in itertools.combinations(range(table[0]), size)
                      if not any(pair in couples for pair in itertools.combinations(signs, 2)))
        if found:
            return found


class Most(unittest.TestCase):
    def check(self, table, long):
        least = helpers.codes_by_size(table, long)
        self.assertEqual(most(table, long), max(least), (table, long))
        self.assertEqual(best_code(table, long), least[max(least)], (table, long))

    def test_all_tables_by_words_of_one_sign(self):
        for table in itertools.chain(helpers.small_tables(5), helpers.some_tables(6, 50)):
            self.check(table, 1)

    def test_words_of_more_signs(self):
        for table in helpers.small_tables(2):
            for long in range(4):
                self.check(table, long)
        for table in helpers.tables(3):
            self.check(table, 2)

    def test_four_signs_by_words_of_two(self):
        # Those with few pairs have too many codes to try them all.
        for table in helpers.tables(4):
            if len(table[1]) >= 2:
                self.check(table, 2)

    def test_words_of_no_sign(self):
        for table in itertools.chain(helpers.small_tables(4), [helpers.RING5, helpers.RING6]):
            self.assertEqual(most(table, 0), 1)
            self.assertEqual(best_code(table, 0), ((),))

    def test_ring_of_five_by_words_of_two(self):
        self.assertEqual(most(helpers.RING5, 1), 2)
        self.assertEqual(most(helpers.RING5, 2), 5)
        self.assertEqual(best_code(helpers.RING5, 2), ((0, 0), (1, 2), (2, 4), (3, 1), (4, 3)))
        self.check(helpers.RING5, 2)
        self.check(turned(helpers.RING5), 2)

    def test_ring_of_five_and_a_sign_by_words_of_two(self):
        table = (6, helpers.RING5[1])
        self.assertEqual(most(table, 2), 10)
        code = best_code(table, 2)
        self.assertEqual(len(code), 10)
        self.assertIs(is_code(table, code), True)

    def test_thirty_six_words(self):
        self.assertEqual(most(helpers.RING6, 2), 9)
        self.assertEqual(best_code(helpers.RING6, 2), (
            (0, 0), (0, 2), (0, 4), (2, 0), (2, 2), (2, 4), (4, 0), (4, 2), (4, 4)))
        self.check(turned(helpers.RING6), 2)
        self.check((6, tuple(itertools.combinations(range(6), 2))[:12]), 2)

    def test_no_or_all_pairs(self):
        for many, long in ((1, 1), (1, 200), (2, 5), (3, 3), (6, 2), (40, 1)):
            every = helpers.all_words(many, long)
            self.assertEqual(most((many, ()), long), len(every))
            self.assertEqual(best_code((many, ()), long), every)
            full = (many, tuple(itertools.combinations(range(many), 2)))
            self.assertEqual(most(full, long), 1)
            self.assertEqual(best_code(full, long), every[:1])

    def test_told_tables_of_up_to_16_signs(self):
        self.assertEqual(most(RING7, 1), 3)
        self.assertEqual(most(PETERSEN, 1), 4)
        self.assertEqual(most(turned(PETERSEN), 1), 2)
        for table in helpers.tables(4):
            self.assertEqual(most(power(table, 2), 1), most(table, 2))

    def test_the_least_is_not_always_what_grows(self):
        star = (4, ((0, 1), (0, 2), (0, 3)))
        self.assertEqual(best_code(star, 1), ((1,), (2,), (3,)))
        self.assertEqual(best_code((5, ((0, 1), (0, 2), (1, 3), (2, 3))), 1), ((0,), (3,), (4,)))


class AllBest(unittest.TestCase):
    def test_all_tables(self):
        for table in itertools.chain(helpers.small_tables(5), helpers.some_tables(6, 20)):
            due = plain_best(table)
            self.assertEqual(all_best(table), due)
            self.assertEqual(needed(table), tuple(sorted(set(due[0]).intersection(*due))))
            self.assertEqual(len(due[0]), most(table, 1))
            self.assertEqual(tuple((sign,) for sign in due[0]), best_code(table, 1))

    def test_few(self):
        self.assertEqual(all_best(helpers.RING5), ((0, 2), (0, 3), (1, 3), (1, 4), (2, 4)))
        self.assertEqual(needed(helpers.RING5), ())
        self.assertEqual(all_best(helpers.PATH3), ((0, 2),))
        self.assertEqual(needed(helpers.PATH3), (0, 2))
        self.assertEqual(all_best((3, ((0, 1),))), ((0, 2), (1, 2)))
        self.assertEqual(needed((3, ((0, 1),))), (2,))
        self.assertEqual(all_best((1, ())), ((0,),))
        self.assertEqual(needed((1, ())), (0,))
        self.assertEqual(all_best((6, ())), ((0, 1, 2, 3, 4, 5),))


if __name__ == "__main__":
    unittest.main()
