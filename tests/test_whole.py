"""[0.2]: what holds for all tables and channels, (a) to (g), tried over those of few signs."""

import itertools
import unittest

import helpers
from mistakesigns.covers import (
    cover_words, fewest, groups, is_cover, is_shares, least_cover, least_shares)
from mistakesigns.hearing import heard_all, is_sure, listed, most_heard, sent, told
from mistakesigns.kinds import all_kinds, alike, beside, form, renaming, times
from mistakesigns.most import best_code, most
from mistakesigns.tables import channel_of, is_table, mixed, renamed, table_of
from mistakesigns.texts import read, written
from mistakesigns.words import grown, is_code, mixed_words

FEW = list(helpers.small_tables(4)) + [helpers.RING5, helpers.RING6]


def lengths(table, most_words):
    return [long for long in range(4) if table[0] ** long <= most_words]


def all_covers(table):
    """All tuples of groups of a table of few signs, none twice, that have all signs."""
    every = helpers.plain_groups(table)
    for size in range(len(every) + 1):
        for some in itertools.combinations(every, size):
            if set().union(*some) == set(range(table[0])):
                yield some


class Whole(unittest.TestCase):
    def test_a_told_apart_at_some_place(self):
        for table in FEW:
            couples = helpers.links(table)
            for long in lengths(table, 40):
                for one, other in itertools.product(helpers.all_words(table[0], long), repeat=2):
                    apart = any(couple not in couples for couple in zip(one, other))
                    self.assertIs(mixed_words(table, one, other), not apart)
                    self.assertIs(is_code(table, (one, other)), apart)

    def test_b_there_is_a_code_with_the_most(self):
        for table in FEW:
            for long in lengths(table, 16):
                code = best_code(table, long)
                self.assertEqual(len(code), most(table, long))
                self.assertTrue(helpers.is_plain_code(helpers.links(table), code))
                self.assertLessEqual(len(grown(table, (), long)), len(code))

    def test_b_none_has_more(self):
        for table in helpers.small_tables(3):
            for long in lengths(table, 9):
                couples = helpers.links(table)
                every = helpers.all_words(table[0], long)
                more = itertools.combinations(every, most(table, long) + 1)
                self.assertFalse(any(helpers.is_plain_code(couples, code) for code in more))

    def test_b_no_more_than_groups_of_any_cover(self):
        for table in FEW:
            for long in lengths(table, 40):
                cover = cover_words(table, long)
                self.assertIs(is_cover(table, long, cover), True)
                self.assertLessEqual(most(table, long), len(cover))
        for table in helpers.small_tables(3):
            for some in all_covers(table):
                as_words = tuple(tuple((sign,) for sign in group) for group in some)
                self.assertIs(is_cover(table, 1, as_words), True)
                self.assertLessEqual(most(table, 1), len(some))

    def test_b_no_more_than_shares(self):
        for table in FEW:
            for by in range(1, 5):
                self.assertLessEqual(by * most(table, 1), least_shares(table, by))
                self.assertLessEqual(least_shares(table, by), by * fewest(table))
                shares = tuple((group, by) for group in groups(table))
                self.assertIs(is_shares(table, by, shares), True)
                self.assertLessEqual(least_shares(table, by), sum(often for group, often in shares))

    def test_b_no_shares_are_less(self):
        for table in helpers.small_tables(3):
            every = helpers.plain_groups(table)
            for by in (1, 2):
                times_together = least_shares(table, by)
                for often in itertools.product(range(by + 1), repeat=len(every)):
                    shares = tuple((group, count) for group, count in zip(every, often) if count)
                    if is_shares(table, by, shares):
                        self.assertLessEqual(times_together, sum(often))

    def test_c_a_cover_has_all_signs_and_no_fewer_groups_do(self):
        for table in helpers.small_tables(4):
            cover = least_cover(table)
            self.assertEqual(set().union(*cover), set(range(table[0])))
            self.assertEqual(fewest(table), len(cover))
            every = helpers.plain_groups(table)
            for some in itertools.combinations(every, len(cover) - 1):
                self.assertNotEqual(set().union(*some), set(range(table[0])))

    def test_d_alike_just_if_of_one_form(self):
        tables = list(helpers.small_tables(3)) + helpers.some_tables(4, 4)
        for one, other in itertools.product(tables, repeat=2):
            names = renaming(one, other)
            self.assertIs(alike(one, other), form(one) == form(other))
            self.assertIs(alike(one, other), names is not None)
            if names is not None:
                self.assertEqual(sorted(names), list(range(one[0])))
                self.assertEqual(renamed(one, names), other)

    def test_d_all_kinds_each_once(self):
        for many in range(1, 5):
            kinds = all_kinds(many)
            self.assertFalse(any(alike(one, other) for one, other in itertools.combinations(kinds, 2)))
            for table in helpers.tables(many):
                self.assertEqual(kinds.count(form(table)), 1)
                self.assertIs(alike(table, form(table)), True)
            self.assertTrue(all(is_table(kind) for kind in kinds))

    def test_e_side_by_side_and_by_pairs(self):
        for one, other in itertools.product(helpers.small_tables(3), repeat=2):
            first, second = max(helpers.codes_by_size(one, 1)), max(helpers.codes_by_size(other, 1))
            self.assertEqual(most(beside(one, other), 1), first + second)
            together = times(one, other)
            self.assertEqual(most(together, 1), max(helpers.codes_by_size(together, 1)))
            self.assertGreaterEqual(most(together, 1), first * second)
        for one, other in itertools.product(helpers.some_tables(4, 5), repeat=2):
            self.assertEqual(most(beside(one, other), 1), most(one, 1) + most(other, 1))
            self.assertGreaterEqual(most(times(one, other), 1), most(one, 1) * most(other, 1))

    def test_f_what_is_heard_comes_of_one_word_of_a_code(self):
        for channel in helpers.some_channels():
            table = table_of(channel)
            for long in lengths(table, 25):
                code = best_code(table, long)
                self.assertIs(is_sure(channel, code), True)
                self.assertEqual(most_heard(channel, code), 1)
                for place, word in enumerate(code):
                    for heard in heard_all(channel, word):
                        self.assertEqual(sent(channel, code, heard), (place,))
                        self.assertEqual(told(channel, code, heard), word)

    def test_f_lists_are_no_longer_than_told(self):
        for channel in helpers.some_channels():
            for many in range(1, len(channel) + 1):
                fits = [signs for size in range(len(channel) + 1)
                        for signs in itertools.combinations(range(len(channel)), size)
                        if most_heard(channel, tuple((sign,) for sign in signs)) <= many]
                self.assertEqual(listed(channel, many), max(map(len, fits)))
            every = helpers.all_words(len(channel), 1)
            for word in every:
                for heard in heard_all(channel, word):
                    self.assertLessEqual(len(sent(channel, every, heard)), most_heard(channel, every))

    def test_f_the_channel_of_a_table_tells_the_table(self):
        for table in FEW:
            channel = channel_of(table)
            self.assertEqual(table_of(channel), table)
            self.assertEqual(listed(channel, 1), most(table, 1))
            for one, other in itertools.combinations(range(table[0]), 2):
                self.assertIs(is_sure(channel, ((one,), (other,))), not mixed(table, one, other))

    def test_g_a_table_and_its_text_tell_one_another(self):
        texts = {}
        for table in itertools.chain(helpers.small_tables(5), helpers.some_tables(6, 10)):
            text = written(table)
            self.assertEqual(read(text), table)
            self.assertNotIn(text, texts)
            texts[text] = table


if __name__ == "__main__":
    unittest.main()
