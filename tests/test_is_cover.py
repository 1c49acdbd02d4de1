"""[0.3], [4.2]: is_cover and is_shares, of any thing."""

import copy
import itertools
import unittest

import helpers
from mistakesigns.covers import cover_words, groups, is_cover, is_shares

ONE = (2, ((0, 1),))
NONE = (2, ())
ROW = ((0,), (1,))


def plain_cover(table, long, thing):
    """By repr, which tells 1 from True and a tuple from a list, unlike ==."""
    couples = helpers.links(table)
    every = {repr(word) for word in helpers.all_words(table[0], long)}
    if type(thing) is not tuple or not all(type(row) is tuple for row in thing):
        return False
    come = {repr(word) for row in thing for word in row}
    return come == every and all(
        helpers.words_mixed(couples, one, other) for row in thing for one, other in itertools.combinations(row, 2))


def plain_shares(table, by, thing):
    allowed = {repr(row) for row in helpers.plain_groups(table)} | {"()"}
    if type(thing) is not tuple or not all(type(share) is tuple and len(share) == 2 for share in thing):
        return False
    if not all(repr(group) in allowed and type(often) is int and 1 <= often <= by for group, often in thing):
        return False
    return all(sum(often for group, often in thing if sign in group) >= by for sign in range(table[0]))


class IsCover(unittest.TestCase):
    def test_things_near_covers(self):
        seen = [0, 0]
        for table, long in itertools.chain(itertools.product(helpers.small_tables(3), range(3)),
                                           [(helpers.RING5, 1), (helpers.RING6, 1), (NONE, 3), (ONE, 3)]):
            for thing in helpers.changes(cover_words(table, long)):
                due = plain_cover(table, long, thing)
                seen[due] += 1
                self.assertIs(is_cover(table, long, thing), due, (table, long, thing))
        self.assertGreater(min(seen), 50)

    def test_all_rows_of_few_words(self):
        every = helpers.all_words(2, 1) + ((2,), ())
        rows = [row for size in range(3) for row in itertools.product(every, repeat=size)]
        for table in helpers.tables(2):
            for size in range(3):
                for thing in itertools.product(rows, repeat=size):
                    self.assertIs(is_cover(table, 1, thing), plain_cover(table, 1, thing), thing)

    def test_all_words_come(self):
        self.assertIs(is_cover(NONE, 1, (((0,),), ((1,),))), True)
        self.assertIs(is_cover(NONE, 1, (((0,),),)), False)
        self.assertIs(is_cover(NONE, 1, (((1,),),)), False)
        self.assertIs(is_cover(ONE, 2, (helpers.all_words(2, 2),)), True)
        for at in range(4):
            every = helpers.all_words(2, 2)
            self.assertIs(is_cover(ONE, 2, (every[:at] + every[at + 1:],)), False)

    def test_words_of_one_tuple_may_be_mistaken(self):
        self.assertIs(is_cover(ONE, 1, (ROW,)), True)
        self.assertIs(is_cover(NONE, 1, (ROW,)), False)
        # Words that may be mistaken with the first, but not with one another.
        self.assertIs(is_cover(helpers.PATH3, 1, (((1,), (0,), (2,)),)), False)
        self.assertIs(is_cover(helpers.PATH3, 1, (((1,), (0,)), ((1,), (2,)))), True)
        self.assertIs(is_cover(helpers.RING5, 2, (helpers.all_words(5, 2),)), False)

    def test_words_may_come_again_and_in_any_order(self):
        self.assertIs(is_cover(ONE, 1, (((1,), (0,), (1,)), ROW, ((0,),))), True)
        self.assertIs(is_cover(NONE, 1, (((1,), (1,)), ((0,), (0,)))), True)

    def test_no_tuple_and_the_empty_tuple_among_them(self):
        self.assertIs(is_cover(ONE, 1, ()), False)
        self.assertIs(is_cover(ONE, 1, ((),)), False)
        self.assertIs(is_cover(ONE, 1, ((), ROW, ())), True)

    def test_words_of_no_sign(self):
        for table in helpers.small_tables(3):
            self.assertIs(is_cover(table, 0, (((),),)), True)
            self.assertIs(is_cover(table, 0, (((), ()), (), ((),))), True)
            for thing in ((), ((),), ((), ()), (((0,),),), ([()],), (([],),), [((),)], None, ""):
                self.assertIs(is_cover(table, 0, thing), False, thing)

    def test_lists_are_no_tuples(self):
        for thing in ([ROW], ([(0,), (1,)],), (([0], (1,)),), (((0,), [1]),), [[[0], [1]]], (ROW, []), (ROW, [(0,)])):
            self.assertIs(is_cover(ONE, 1, thing), False, thing)

    def test_truths_are_no_signs(self):
        for thing in ((((False,), (True,)),), (((0,), (True,)),), ((((False,)), (1,)),), (ROW, ((True,),))):
            self.assertIs(is_cover(ONE, 1, thing), False, thing)

    def test_other_lengths_and_signs(self):
        for word in ((), (0, 0), (2,), (-1,), (10 ** 30,), ("0",), (None,), ((0,),), ("",), "0", 0, None, True):
            self.assertIs(is_cover(ONE, 1, (ROW, (word,))), False, word)
            self.assertIs(is_cover(ONE, 1, (ROW + (word,),)), False, word)
        self.assertIs(is_cover(ONE, 2, (ROW,)), False)
        self.assertIs(is_cover((6, ()), 1, tuple(((sign,),) for sign in range(7))), False)

    def test_other_kinds(self):
        for thing in helpers.ODD + ("((0,), (1,))", (ROW, None), (ROW, "ab"), (ROW, ""), (ROW, 1), (ROW, True)):
            self.assertIs(is_cover(ONE, 1, thing), False, thing)

    def test_many_words(self):
        every = helpers.all_words(2, 8)
        self.assertIs(is_cover(ONE, 8, (every,)), True)
        self.assertIs(is_cover(ONE, 8, (every[:-1],)), False)
        self.assertIs(is_cover((1, ()), 300, ((((0,) * 300),),)), True)
        self.assertIs(is_cover((1, ()), 300, ((((0,) * 299),),)), False)


class IsShares(unittest.TestCase):
    def test_things_near_shares(self):
        seen = [0, 0]
        for table in itertools.chain(helpers.small_tables(3), [helpers.RING5, helpers.RING6]):
            for by in range(1, 4):
                for thing in helpers.changes(tuple((group, by) for group in groups(table))):
                    due = plain_shares(table, by, thing)
                    seen[due] += 1
                    self.assertIs(is_shares(table, by, thing), due, (table, by, thing))
        self.assertGreater(min(seen), 50)

    def test_all_shares_of_few_signs(self):
        rows = [(), (0,), (1,), (0, 1), (1, 0), (2,)]
        every = [(row, often) for row in rows for often in range(4)]
        for table in helpers.tables(2):
            for by in (1, 2, 3):
                for size in range(3):
                    for thing in itertools.product(every, repeat=size):
                        self.assertIs(is_shares(table, by, thing), plain_shares(table, by, thing), thing)

    def test_ring_of_five_by_2(self):
        once = tuple((pair, 1) for pair in helpers.RING5[1])
        self.assertIs(is_shares(helpers.RING5, 2, once), True)
        self.assertIs(is_shares(helpers.RING5, 3, once), False)
        self.assertIs(is_shares(helpers.RING5, 1, once), True)
        for at in range(5):
            self.assertIs(is_shares(helpers.RING5, 2, once[:at] + once[at + 1:]), False)

    def test_how_often(self):
        for often in (-1, 0, 1, 2, 3, 4, 5, 10 ** 30):
            due = 1 <= often <= 3
            self.assertIs(is_shares(ONE, 3, (((0, 1), 3), ((0,), often))), due, often)
            self.assertIs(is_shares(ONE, 3, (((0, 1), 3), ((), often))), due, often)
        for often in (True, False, None, "1", (1,), [1], ()):
            self.assertIs(is_shares(ONE, 1, (((0, 1), often),)), False, often)
            self.assertIs(is_shares(ONE, 3, (((0, 1), 3), ((0,), often))), False, often)

    def test_groups(self):
        for group in ((), (0,), (1,), (2,), (0, 1), (1, 2)):
            self.assertIs(is_shares(helpers.PATH3, 1, (((0, 1), 1), ((2,), 1), (group, 1))), True, group)
        for group in ((1, 0), (0, 0), (2, 1), (0, 2), (0, 1, 2), (3,), (-1,), (2, 3), (True,), (False,), (0, True),
                      (False, 1), [0, 1], [], 0, None, "", "01", ("0",), (None,), ((0,),), (0, None), (0, "1"),
                      (None, None), ("0", "1")):
            self.assertIs(is_shares(helpers.PATH3, 1, (((0, 1), 1), ((2,), 1), (group, 1))), False, group)

    def test_a_group_to_which_more_can_come(self):
        self.assertIs(is_shares(ONE, 2, (((0,), 2), ((1,), 2))), True)

    def test_a_group_may_come_again(self):
        self.assertIs(is_shares(ONE, 3, (((0, 1), 1), ((0, 1), 2))), True)
        self.assertIs(is_shares(ONE, 3, (((0, 1), 1),) * 3), True)
        self.assertIs(is_shares(ONE, 3, (((0, 1), 1),) * 2), False)

    def test_a_sign_too_seldom(self):
        self.assertIs(is_shares(ONE, 2, (((0, 1), 1), ((0,), 1))), False)
        self.assertIs(is_shares(ONE, 2, (((0, 1), 1), ((1,), 1))), False)
        self.assertIs(is_shares(ONE, 2, (((0, 1), 1), ((0,), 1), ((1,), 1))), True)
        for thing in ((), (((), 1),), (((0,), 1),), (((1,), 1),)):
            self.assertIs(is_shares(ONE, 1, thing), False, thing)

    def test_other_kinds_and_lengths(self):
        good = ((0, 1), 1)
        self.assertIs(is_shares(ONE, 1, (good,)), True)
        for thing in helpers.ODD + (good, [good], (list(good),), ([good],), (good, None), (good, 1), (good, ""),
                                    (good, "ab"), (good, ()), (good, ((0, 1),)), (good, ((0, 1), 1, 1)),
                                    (good, (1, (0, 1))), (good, [(0,), 1]), ((good,),)):
            self.assertIs(is_shares(ONE, 1, thing), False, thing)


class NotChanged(unittest.TestCase):
    def test_what_is_asked_is_not_changed(self):
        for thing in ([[[0], [1]]], ([(0,), (1,)],), [[[0, 1], 1]], [[[[[3]]]]], ([], [[]]), (((0, 1), 1),), (ROW,)):
            kept = copy.deepcopy(thing)
            self.assertIs(is_cover(ONE, 1, thing), is_cover(ONE, 1, thing))
            self.assertIs(is_shares(ONE, 1, thing), is_shares(ONE, 1, thing))
            self.assertEqual(repr(thing), repr(kept))


if __name__ == "__main__":
    unittest.main()
