"""[0.3] and the interface: the names, their arguments, and what kinds of values are told."""

import copy
import unittest

import helpers
from mistakesigns import errors, most, tables, words

RING5 = helpers.RING5
CHANNEL = ((0, 1), (1, 2), (3,))
CODE = ((0, 0), (1, 2))

# Each name with arguments to ask it by, and the kind of value it tells.
ASKED = (
    (tables.is_table, (RING5,), bool),
    (tables.is_table, ([2, [[0, 1]]],), bool),
    (tables.is_channel, (CHANNEL,), bool),
    (tables.is_channel, ([[0], [1]],), bool),
    (tables.mixed, (RING5, 0, 4), bool),
    (tables.mixed, (RING5, 2, 2), bool),
    (tables.near, (RING5, 2), tuple),
    (tables.turned, (RING5,), tuple),
    (tables.part, (RING5, (3, 1, 2)), tuple),
    (tables.part, (RING5, ()), tuple),
    (tables.renamed, (RING5, (1, 0, 2, 4, 3)), tuple),
    (tables.table_of, (CHANNEL,), tuple),
    (tables.channel_of, (RING5,), tuple),
    (words.words, (3, 2), tuple),
    (words.power, (RING5, 2), tuple),
    (words.clash, (RING5, ((0, 0), (1, 1))), tuple),
    (words.clash, (RING5, CODE), type(None)),
    (words.addable, (RING5, CODE, 2), tuple),
    (words.grown, (RING5, CODE, 2), tuple),
    (words.mixed_words, (RING5, (0, 0), (1, 1)), bool),
    (words.mixed_words, (RING5, (), ()), bool),
    (words.is_code, (RING5, CODE), bool),
    (words.is_full, (RING5, CODE, 2), bool),
    (most.most, (RING5, 2), int),
    (most.best_code, (RING5, 2), tuple),
    (most.all_best, (RING5,), tuple),
    (most.needed, (RING5,), tuple),
)

NAMES = {
    errors: "MistakeError NoText NoSign",
    tables: "is_table is_channel mixed near turned part renamed table_of channel_of",
    words: "words power clash addable grown mixed_words is_code is_full",
    most: "most best_code all_best needed",
}


class Interface(unittest.TestCase):
    def test_every_name_exists(self):
        for module, names in NAMES.items():
            for name in names.split():
                self.assertTrue(callable(getattr(module, name)), name)

    def test_every_function_is_asked_here(self):
        asked = {function.__name__ for function, given, kind in ASKED}
        due = {name for module, names in NAMES.items() if module is not errors for name in names.split()}
        self.assertEqual(asked, due)

    def test_kinds_of_values(self):
        for function, given, kind in ASKED:
            value = function(*given)
            self.assertIs(type(value), kind, function.__name__)
            self.assertTrue(helpers.is_told(value), function.__name__)
            if kind is not bool:
                self.assertFalse(helpers.holds_truth(value), function.__name__)

    def test_asked_again_the_same_is_told(self):
        for function, given, kind in ASKED + ASKED[::-1]:
            kept = copy.deepcopy(given)
            first = repr(function(*given))
            self.assertEqual(repr(function(*given)), first)
            self.assertEqual(repr(given), repr(kept))


if __name__ == "__main__":
    unittest.main()
