"""[0.2] (a), [2.1], [2.2]: words and codes."""

import itertools
import unittest

import helpers
from mistakesigns.tables import is_table
from mistakesigns.words import addable, clash, grown, is_code, is_full, mixed_words, power, words


def tried():
    """Tables and lengths with few enough words to try all."""
    for table in helpers.small_tables(3):
        for long in range(4):
            yield table, long
    for table in itertools.chain(helpers.tables(4), [helpers.RING5, helpers.RING6]):
        yield table, 1
        yield table, 2


def greedy(couples, some, every):
    code = list(some)
    for word in every:
        if all(not helpers.words_mixed(couples, word, held) for held in code):
            code.append(word)
    return tuple(code)


class Words(unittest.TestCase):
    def test_all_words_rising(self):
        for many in range(1, 7):
            for long in range(4):
                self.assertEqual(words(many, long), helpers.all_words(many, long))
        self.assertEqual(words(2, 8), helpers.all_words(2, 8))

    def test_few(self):
        self.assertEqual(words(2, 2), ((0, 0), (0, 1), (1, 0), (1, 1)))
        self.assertEqual(words(3, 1), ((0,), (1,), (2,)))

    def test_words_of_no_sign(self):
        for many in range(1, 8):
            self.assertEqual(words(many, 0), ((),))

    def test_one_sign_and_many_signs(self):
        self.assertEqual(words(1, 500), ((0,) * 500,))
        self.assertEqual(words(17, 2), helpers.all_words(17, 2))
        self.assertEqual(words(300, 1), helpers.all_words(300, 1))


class MixedWords(unittest.TestCase):
    def test_told_apart_just_if_at_some_place_signs_are(self):
        for table, long in tried():
            couples = helpers.links(table)
            every = helpers.all_words(table[0], long)[::2]
            for one, other in itertools.product(every, repeat=2):
                due = not any((sign, against) not in couples for sign, against in zip(one, other))
                self.assertIs(mixed_words(table, one, other), due)

    def test_ring(self):
        self.assertIs(mixed_words(helpers.RING5, (0, 0), (1, 4)), True)
        self.assertIs(mixed_words(helpers.RING5, (0, 0), (1, 2)), False)
        self.assertIs(mixed_words(helpers.RING5, (0, 0), (2, 1)), False)
        self.assertIs(mixed_words(helpers.RING5, (3, 2), (3, 2)), True)

    def test_words_of_no_sign_are_the_same(self):
        self.assertIs(mixed_words((2, ()), (), ()), True)

    def test_a_told_table_with_more_signs(self):
        told = power(helpers.RING5, 2)
        self.assertIs(mixed_words(told, (0, 24), (24, 0)), True)
        self.assertIs(mixed_words(told, (0, 24), (24, 7)), False)


class Power(unittest.TestCase):
    def test_words_numbered_as_they_rise(self):
        for table, long in tried():
            couples = helpers.links(table)
            every = helpers.all_words(table[0], long)
            due = tuple((one, other) for one, other in itertools.combinations(range(len(every)), 2)
                        if helpers.words_mixed(couples, every[one], every[other]))
            self.assertEqual(power(table, long), (len(every), due))

    def test_no_sign_and_one_sign(self):
        for table in itertools.chain(helpers.small_tables(4), [helpers.RING6]):
            self.assertEqual(power(table, 0), (1, ()))
            self.assertEqual(power(table, 1), table)
        self.assertEqual(power((1, ()), 100), (1, ()))

    def test_few(self):
        self.assertEqual(power((2, ((0, 1),)), 2), (4, ((0, 1), (0, 2), (0, 3), (1, 2), (1, 3), (2, 3))))
        self.assertEqual(power(helpers.PATH3, 2)[1][:4], ((0, 1), (0, 3), (0, 4), (1, 2)))

    def test_told_tables_are_taken(self):
        for table in helpers.small_tables(3):
            self.assertEqual(power(power(table, 2), 2), power(table, 4))

    def test_no_more_than_300_words(self):
        self.assertEqual(power((2, ()), 8), (256, ()))
        self.assertEqual(len(power((2, ((0, 1),)), 8)[1]), 256 * 255 // 2)
        many, pairs = power(helpers.RING6, 3)
        self.assertEqual((many, len(pairs)), (216, 216 * 26 // 2))
        self.assertIs(is_table((many, pairs)), False)


class Clash(unittest.TestCase):
    def test_any_two_or_three_words(self):
        for table, long in ((helpers.PATH3, 2), (helpers.RING5, 1), ((3, ((0, 2),)), 2), ((2, ()), 3)):
            couples = helpers.links(table)
            every = helpers.all_words(table[0], long)
            for size in range(4):
                for some in itertools.product(every, repeat=size):
                    due = [(one, other) for one, other in itertools.combinations(range(size), 2)
                           if helpers.words_mixed(couples, some[one], some[other])]
                    self.assertEqual(clash(table, some), due[0] if due else None)
                    self.assertIs(is_code(table, some), not due)

    def test_no_words_and_one_word(self):
        for table in helpers.small_tables(3):
            self.assertIsNone(clash(table, ()))
            self.assertIs(is_code(table, ()), True)
            self.assertIsNone(clash(table, ((0, 0),)))
            self.assertIs(is_code(table, ((),)), True)

    def test_words_that_stand_twice(self):
        self.assertEqual(clash((2, ()), ((0,), (1,), (0,))), (0, 2))
        self.assertEqual(clash((2, ()), ((), ())), (0, 1))
        self.assertIs(is_code((2, ()), ((1, 0), (1, 0))), False)

    def test_the_least_pair_is_told(self):
        some = ((0, 0), (2, 0), (2, 1), (1, 4), (0, 1))
        self.assertEqual(clash(helpers.RING5, some), (0, 3))
        self.assertEqual(clash(helpers.RING5, some[1:]), (0, 1))


class Addable(unittest.TestCase):
    def each_code(self):
        for table, long in ((helpers.PATH3, 2), (helpers.RING5, 1), (helpers.RING5, 2), ((3, ((0, 2),)), 2), ((2, ()), 3),
                            (helpers.RING6, 1), ((1, ()), 2), ((2, ((0, 1),)), 0)):
            every = helpers.all_words(table[0], long)
            couples = helpers.links(table)
            for size in range(4):
                for some in itertools.permutations(every[::2], size):
                    if helpers.is_plain_code(couples, some):
                        yield table, long, couples, every, some

    def test_all_codes_of_few_words(self):
        for table, long, couples, every, some in self.each_code():
            due = tuple(word for word in every
                        if all(not helpers.words_mixed(couples, word, held) for held in some))
            self.assertEqual(addable(table, some, long), due)
            self.assertIs(is_full(table, some, long), due == ())
            self.assertEqual(grown(table, some, long), greedy(couples, some, every))

    def test_from_no_words(self):
        for table, long in tried():
            every = helpers.all_words(table[0], long)
            self.assertEqual(addable(table, (), long), every)
            self.assertIs(is_full(table, (), long), False)
            code = grown(table, (), long)
            self.assertEqual(code, greedy(helpers.links(table), (), every))
            self.assertIs(is_code(table, code), True)

    def test_from_a_full_code(self):
        for table, long in tried():
            code = grown(table, (), long)
            self.assertEqual(addable(table, code, long), ())
            self.assertIs(is_full(table, code, long), True)
            self.assertEqual(grown(table, code, long), code)

    def test_words_of_no_sign(self):
        self.assertEqual(addable(helpers.RING5, (), 0), ((),))
        self.assertIs(is_full(helpers.RING5, (), 0), False)
        self.assertEqual(grown(helpers.RING5, (), 0), ((),))
        self.assertEqual(addable(helpers.RING5, ((),), 0), ())
        self.assertIs(is_full(helpers.RING5, ((),), 0), True)
        self.assertEqual(grown(helpers.RING5, ((),), 0), ((),))

    def test_ring(self):
        self.assertEqual(addable(helpers.RING5, ((2,),), 1), ((0,), (4,)))
        self.assertEqual(grown(helpers.RING5, ((2,),), 1), ((2,), (0,)))
        self.assertEqual(grown(helpers.RING5, (), 2), ((0, 0), (0, 2), (2, 0), (2, 2)))
        self.assertEqual(grown(helpers.RING5, ((3, 1), (1, 2)), 2), ((3, 1), (1, 2), (0, 0), (2, 4), (4, 3)))


if __name__ == "__main__":
    unittest.main()
