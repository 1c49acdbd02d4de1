"""[6.1]: what was sent, by what was heard."""

import itertools
import unittest

import helpers
from mistakesigns.errors import MistakeError, NoSign, NoText
from mistakesigns.hearing import heard_all, is_sure, listed, most_heard, sent, told
from mistakesigns.most import most
from mistakesigns.tables import channel_of, table_of

RING = ((0, 1), (1, 2), (2, 3), (3, 4), (0, 4))
CODE = ((0, 0), (1, 2), (2, 4), (3, 1), (4, 3))


def some_words(many, long):
    """Some choices of words so long: none, one, some in no order, and all."""
    every = helpers.all_words(many, long)
    yield ()
    yield every
    yield every[::-1]
    yield every[-1:]
    yield every[1::2]
    yield every[::-3]
    yield every[:2]


def tried():
    for channel in helpers.some_channels():
        for long in range(3 if len(channel) < 5 else 2):
            for some in some_words(len(channel), long):
                yield channel, long, some


def letters_of(channel):
    """All letters of a channel, and one that is none of its."""
    return sorted({letter for row in channel for letter in row} | {9})


class Sent(unittest.TestCase):
    def test_channels(self):
        for channel, long, some in tried():
            every = [set(helpers.heard_of(channel, word)) for word in some]
            for heard in itertools.islice(itertools.product(letters_of(channel), repeat=long), 0, None, 3):
                due = tuple(place for place, known in enumerate(every) if heard in known)
                self.assertEqual(sent(channel, some, heard), due)

    def test_none_one_and_several(self):
        some = ((0, 0), (0, 1), (1, 1), (3, 3))
        self.assertEqual(sent(RING, some, (4, 4)), (3,))
        self.assertEqual(sent(RING, some, (1, 1)), (0, 1, 2))
        self.assertEqual(sent(RING, some, (2, 2)), (2,))
        self.assertEqual(sent(RING, some, (2, 4)), ())
        self.assertEqual(sent(RING, (), (2, 4)), ())
        self.assertEqual(sent(RING, some, (9, 9)), ())

    def test_places_not_signs(self):
        self.assertEqual(sent(RING, ((4,), (2,), (0,)), (0,)), (0, 2))

    def test_words_of_no_sign(self):
        self.assertEqual(sent(RING, ((),), ()), (0,))
        self.assertEqual(sent(RING, (), ()), ())

    def test_letters_greater_than_5(self):
        channel = channel_of(helpers.full(6))
        self.assertEqual(max(map(max, channel)), 20)
        self.assertEqual(sent(channel, ((0,), (4,), (5,)), (20,)), (1, 2))
        self.assertEqual(sent(channel, ((5, 5), (4, 4), (5, 4)), (20, 4)), (1, 2))
        self.assertEqual(told(channel, ((0,), (4,), (5,)), (5,)), (5,))


class Told(unittest.TestCase):
    def test_channels(self):
        seen = [0, 0]
        for channel, long, some in tried():
            for heard in itertools.islice(itertools.product(letters_of(channel), repeat=long), 0, None, 5):
                found = [word for word in some if heard in helpers.heard_of(channel, word)]
                seen[len(found) == 1] += 1
                if len(found) == 1:
                    self.assertEqual(told(channel, some, heard), found[0])
                else:
                    self.assertRaises(NoSign, told, channel, some, heard)
        self.assertGreater(min(seen), 100)

    def test_few(self):
        self.assertEqual(told(RING, CODE, (1, 3)), (1, 2))
        self.assertEqual(told(RING, CODE, (0, 1)), (0, 0))
        self.assertEqual(told(RING, CODE, (4, 4)), (4, 3))

    def test_refused(self):
        for some, heard in (((), (0,)), ((), ()), (((0,),), (2,)), (((0,), (1,)), (1,)), (((0,), (4,), (2,)), (0,)),
                            (((0, 0), (1, 1)), (1, 1)), (CODE, (0, 9))):
            with self.assertRaises(NoSign) as caught:
                told(RING, some, heard)
            self.assertIsInstance(caught.exception, MistakeError)
            self.assertNotIsInstance(caught.exception, NoText)

    def test_words_of_no_sign(self):
        self.assertEqual(told(RING, ((),), ()), ())


class IsSure(unittest.TestCase):
    def test_channels(self):
        seen = [0, 0]
        for channel, long, some in tried():
            every = [set(helpers.heard_of(channel, word)) for word in some]
            due = all(one.isdisjoint(other) for one, other in itertools.combinations(every, 2))
            seen[due] += 1
            self.assertIs(is_sure(channel, some), due, (channel, some))
        self.assertGreater(min(seen), 100)

    def test_few(self):
        self.assertIs(is_sure(RING, CODE), True)
        self.assertIs(is_sure(RING, CODE + ((0, 1),)), False)
        self.assertIs(is_sure(RING, ((0,), (2,))), True)
        self.assertIs(is_sure(RING, ((0,), (2,), (4,))), False)

    def test_none_and_words_of_no_sign(self):
        self.assertIs(is_sure(RING, ()), True)
        self.assertIs(is_sure(RING, ((),)), True)
        self.assertIs(is_sure(RING, ((0,),)), True)


class HeardAll(unittest.TestCase):
    def test_channels(self):
        for channel in helpers.some_channels():
            for long in range(3):
                for word in helpers.all_words(len(channel), long):
                    self.assertEqual(heard_all(channel, word), tuple(sorted(helpers.heard_of(channel, word))))

    def test_few(self):
        self.assertEqual(heard_all(RING, (4, 1)), ((0, 1), (0, 2), (4, 1), (4, 2)))
        self.assertEqual(heard_all(RING, ()), ((),))
        self.assertEqual(heard_all(((3,), (1, 5)), (0, 0, 0)), ((3, 3, 3),))
        self.assertEqual(heard_all(channel_of(helpers.RING6), (0,)), ((0,), (6,), (7,)))


class MostHeard(unittest.TestCase):
    def test_channels(self):
        for channel, long, some in tried():
            count = {}
            for word in some:
                for heard in helpers.heard_of(channel, word):
                    count[heard] = count.get(heard, 0) + 1
            self.assertEqual(most_heard(channel, some), max(count.values(), default=0), (channel, some))

    def test_few(self):
        self.assertEqual(most_heard(RING, ((0,), (1,), (2,))), 2)
        self.assertEqual(most_heard(RING, ((0,), (2,))), 1)
        self.assertEqual(most_heard(RING, helpers.all_words(5, 2)), 4)
        self.assertEqual(most_heard(RING, CODE), 1)
        # Each two may be heard alike, but not all three.
        self.assertEqual(most_heard(((0, 1), (1, 2), (0, 2)), ((0,), (1,), (2,))), 2)

    def test_none_and_words_of_no_sign(self):
        self.assertEqual(most_heard(RING, ()), 0)
        self.assertEqual(most_heard(RING, ((),)), 1)

    def test_many_words(self):
        self.assertEqual(most_heard(((0, 1), (1, 2)), helpers.all_words(2, 8)), 256)
        self.assertEqual(most_heard(((0,), (1,)), helpers.all_words(2, 8)), 1)
        self.assertEqual(most_heard(channel_of(helpers.full(6)), helpers.all_words(6, 3)), 8)
        self.assertEqual(most_heard(((0, 1, 2, 3, 4, 5),), ((0,) * 300,)), 1)


class Listed(unittest.TestCase):
    def plain(self, channel, many):
        for size in range(len(channel), -1, -1):
            for signs in itertools.combinations(range(len(channel)), size):
                if all(sum(letter in channel[sign] for sign in signs) <= many for letter in letters_of(channel)):
                    return size

    def test_channels(self):
        tables = itertools.chain(helpers.small_tables(4), helpers.some_tables(6, 2000))
        for channel in itertools.chain(helpers.some_channels(), map(channel_of, tables)):
            for many in range(1, len(channel) + 3):
                self.assertEqual(listed(channel, many), self.plain(channel, many), (channel, many))

    def test_by_one_it_is_the_most(self):
        for channel in helpers.some_channels():
            self.assertEqual(listed(channel, 1), most(table_of(channel), 1))

    def test_by_as_many_as_there_are_signs(self):
        for channel in helpers.some_channels():
            self.assertEqual(listed(channel, len(channel)), len(channel))
            self.assertEqual(listed(channel, len(channel) + 100), len(channel))

    def test_few(self):
        alike = ((0, 1, 2, 3, 4, 5),) * 6
        self.assertEqual([listed(alike, many) for many in range(1, 8)], [1, 2, 3, 4, 5, 6, 6])
        self.assertEqual([listed(RING, many) for many in (1, 2)], [2, 5])
        threes = ((0,), (0, 1), (0, 1), (1,))
        self.assertEqual([listed(threes, many) for many in (1, 2, 3)], [2, 3, 4])
        # By pairs of letters of their own no more than two signs are heard alike.
        self.assertEqual([listed(channel_of(helpers.full(6)), many) for many in (1, 2)], [1, 6])


if __name__ == "__main__":
    unittest.main()
