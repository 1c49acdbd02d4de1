"""[4.1], [4.2]: groups, covers, and the least shares."""

import itertools
import unittest

import helpers
from mistakesigns.covers import (
    cover_words, fewest, groups, is_cover, is_shares, is_tight, least_cover, least_shares)
from mistakesigns.most import most
from mistakesigns.tables import turned

TRIED = list(helpers.small_tables(4)) + helpers.some_tables(5, 7) + helpers.some_tables(6, 400)
# A ring with a tail, two threes, and a ring all signs of which may be mistaken for a sixth.
TAILED = (6, ((0, 1), (0, 4), (1, 2), (2, 3), (3, 4), (4, 5)))
THREES = (6, ((0, 1), (0, 2), (1, 2), (3, 4), (3, 5), (4, 5)))
WHEEL = (6, ((0, 1), (0, 4), (0, 5), (1, 2), (1, 5), (2, 3), (2, 5), (3, 4), (3, 5), (4, 5)))


def whole_groups(table):
    """The groups that are part of no other one."""
    every = helpers.plain_groups(table)
    return tuple(sorted(row for row in every if not any(set(row) < set(other) for other in every)))


def partitions(signs):
    """All ways to part signs, each by the first signs of its parts."""
    if not signs:
        yield ()
        return
    first, rest = signs[0], signs[1:]
    for size in range(len(rest) + 1):
        for others in itertools.combinations(rest, size):
            left = tuple(sign for sign in rest if sign not in others)
            for parts in partitions(left):
                yield ((first,) + others,) + parts


def plain_covers(table):
    """All ways to part the signs into groups."""
    every = set(helpers.plain_groups(table))
    return [parts for parts in partitions(tuple(range(table[0]))) if every.issuperset(parts)]


def comes_often(many, some, by):
    return all(sum(sign in group for group in some) >= by for sign in range(many))


def plain_shares(table, by, every):
    """The least number of groups, each taken as often as one likes, in which each sign comes by times."""
    for together in itertools.count():
        for some in itertools.combinations_with_replacement(every, together):
            if comes_often(table[0], some, by):
                return some


class Groups(unittest.TestCase):
    def test_tables(self):
        for table in TRIED:
            self.assertEqual(groups(table), whole_groups(table), table)

    def test_no_pairs_and_all_pairs(self):
        for many in range(1, 7):
            self.assertEqual(groups((many, ())), tuple((sign,) for sign in range(many)))
            self.assertEqual(groups(helpers.full(many)), (tuple(range(many)),))

    def test_few(self):
        self.assertEqual(groups(helpers.RING5), helpers.RING5[1])
        self.assertEqual(groups(helpers.PATH3), ((0, 1), (1, 2)))
        self.assertEqual(groups((4, ((0, 1), (0, 2), (1, 2)))), ((0, 1, 2), (3,)))
        self.assertEqual(groups(THREES), ((0, 1, 2), (3, 4, 5)))
        self.assertEqual(groups(WHEEL), ((0, 1, 5), (0, 4, 5), (1, 2, 5), (2, 3, 5), (3, 4, 5)))
        # Rising by signs, not by how many there are.
        self.assertEqual(groups((4, ((0, 3), (1, 2), (1, 3), (2, 3)))), ((0, 3), (1, 2, 3)))
        self.assertEqual(groups((4, ((0, 1), (0, 2), (1, 2), (2, 3)))), ((0, 1, 2), (2, 3)))


class LeastCover(unittest.TestCase):
    def test_tables(self):
        for table in TRIED:
            covers = plain_covers(table)
            size = min(map(len, covers))
            due = min(parts for parts in covers if len(parts) == size)
            self.assertEqual(least_cover(table), due, table)
            self.assertEqual(fewest(table), size, table)
            self.assertIs(is_tight(table), size == max(helpers.codes_by_size(table, 1)), table)

    def test_parts_by_first_signs(self):
        for table in TRIED:
            cover = least_cover(table)
            self.assertEqual(sorted(sum(cover, ())), list(range(table[0])))
            self.assertEqual([group[0] for group in cover], sorted(group[0] for group in cover))
            self.assertTrue(set(cover) <= set(helpers.plain_groups(table)))

    def test_of_several_the_least(self):
        self.assertEqual(least_cover(helpers.PATH3), ((0,), (1, 2)))
        self.assertEqual(least_cover(helpers.RING5), ((0,), (1, 2), (3, 4)))
        self.assertEqual(least_cover(helpers.RING6), ((0, 1), (2, 3), (4, 5)))
        self.assertEqual(least_cover((4, ((0, 2), (0, 3), (1, 2), (1, 3)))), ((0, 2), (1, 3)))
        # The least first group would make it longer than need be.
        self.assertEqual(least_cover((4, ((0, 3), (1, 2)))), ((0, 3), (1, 2)))

    def test_no_pairs_and_all_pairs(self):
        for many in range(1, 7):
            self.assertEqual(least_cover((many, ())), tuple((sign,) for sign in range(many)))
            self.assertEqual(fewest((many, ())), many)
            self.assertEqual(least_cover(helpers.full(many)), (tuple(range(many)),))
            self.assertEqual(fewest(helpers.full(many)), 1)
            self.assertIs(is_tight((many, ())), True)
            self.assertIs(is_tight(helpers.full(many)), True)

    def test_tight(self):
        self.assertEqual((fewest(helpers.RING5), most(helpers.RING5, 1)), (3, 2))
        self.assertIs(is_tight(helpers.RING5), False)
        self.assertIs(is_tight(WHEEL), False)
        self.assertIs(is_tight(helpers.RING6), True)
        self.assertIs(is_tight(TAILED), True)
        self.assertIs(is_tight(turned(helpers.RING6)), True)
        self.assertIs(is_tight(helpers.PATH3), True)


class CoverWords(unittest.TestCase):
    def test_tables(self):
        for table, long in itertools.chain(itertools.product(helpers.small_tables(3), range(4)),
                                           itertools.product([helpers.RING5, helpers.RING6, THREES, WHEEL], range(4))):
            rows = itertools.product(least_cover(table), repeat=long)
            due = tuple(tuple(sorted(itertools.product(*row))) for row in rows)
            self.assertEqual(cover_words(table, long), due)
            self.assertIs(is_cover(table, long, due), True)

    def test_words_of_no_sign(self):
        for table in helpers.small_tables(4):
            self.assertEqual(cover_words(table, 0), (((),),))

    def test_few(self):
        self.assertEqual(cover_words(helpers.PATH3, 1), (((0,),), ((1,), (2,))))
        self.assertEqual(cover_words(helpers.PATH3, 2), (
            ((0, 0),), ((0, 1), (0, 2)), ((1, 0), (2, 0)), ((1, 1), (1, 2), (2, 1), (2, 2))))
        self.assertEqual(cover_words((4, ((0, 2), (1, 3))), 1), (((0,), (2,)), ((1,), (3,))))
        self.assertEqual(cover_words((4, ((0, 2), (1, 3))), 2)[1], ((0, 1), (0, 3), (2, 1), (2, 3)))
        self.assertEqual(cover_words((1, ()), 300), ((((0,) * 300),),))


class LeastShares(unittest.TestCase):
    def check(self, table, by, every):
        due = plain_shares(table, by, every)
        self.assertEqual(least_shares(table, by), len(due), (table, by))
        shares = tuple((group, due.count(group)) for group in sorted(set(due)))
        self.assertIs(is_shares(table, by, shares), True)

    def test_all_groups_of_few_signs(self):
        for table in helpers.small_tables(3):
            for by in range(1, 5):
                self.check(table, by, helpers.plain_groups(table))

    def test_whole_groups_of_more_signs(self):
        for table in itertools.chain(helpers.tables(4), helpers.some_tables(5, 30)):
            for by in range(1, 5):
                self.check(table, by, whole_groups(table))
        for table in (TAILED, THREES, WHEEL, helpers.RING6, turned(helpers.RING6), turned(TAILED)):
            for by in range(1, 4):
                self.check(table, by, whole_groups(table))

    def test_ring_of_five(self):
        self.assertEqual([least_shares(helpers.RING5, by) for by in range(1, 5)], [3, 5, 8, 10])

    def test_once_is_the_fewest(self):
        for table in TRIED:
            self.assertEqual(least_shares(table, 1), fewest(table))

    def test_no_pairs_and_all_pairs(self):
        for many in range(1, 7):
            for by in range(1, 5):
                self.assertEqual(least_shares((many, ()), by), many * by)
                self.assertEqual(least_shares(helpers.full(many), by), by)


if __name__ == "__main__":
    unittest.main()
