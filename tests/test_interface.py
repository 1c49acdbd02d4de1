"""[0.3] and the interface: the names, their arguments, and what kinds of values are told."""

import copy
import unittest

import helpers
from mistakesigns import covers, errors, hearing, kinds, most, tables, texts, words

RING5 = helpers.RING5
PATH3 = helpers.PATH3
CHANNEL = ((0, 1), (1, 2), (3,))
CODE = ((0, 0), (1, 2))

# Each name with arguments to ask it by, and the kind of value it tells.
ASKED = (
    (tables.is_table, (RING5,), bool),
    (tables.is_table, ([2, [[0, 1]]],), bool),
    (tables.is_channel, (CHANNEL,), bool),
    (tables.is_channel, ([[0], [1]],), bool),
    (tables.mixed, (RING5, 0, 4), bool),
    (tables.mixed, (RING5, 2, 2), bool),
    (tables.near, (RING5, 2), tuple),
    (tables.turned, (RING5,), tuple),
    (tables.part, (RING5, (3, 1, 2)), tuple),
    (tables.part, (RING5, ()), tuple),
    (tables.renamed, (RING5, (1, 0, 2, 4, 3)), tuple),
    (tables.table_of, (CHANNEL,), tuple),
    (tables.channel_of, (RING5,), tuple),
    (words.words, (3, 2), tuple),
    (words.power, (RING5, 2), tuple),
    (words.clash, (RING5, ((0, 0), (1, 1))), tuple),
    (words.clash, (RING5, CODE), type(None)),
    (words.addable, (RING5, CODE, 2), tuple),
    (words.grown, (RING5, CODE, 2), tuple),
    (words.mixed_words, (RING5, (0, 0), (1, 1)), bool),
    (words.mixed_words, (RING5, (), ()), bool),
    (words.is_code, (RING5, CODE), bool),
    (words.is_full, (RING5, CODE, 2), bool),
    (most.most, (RING5, 2), int),
    (most.best_code, (RING5, 2), tuple),
    (most.all_best, (RING5,), tuple),
    (most.needed, (RING5,), tuple),
    (covers.groups, (RING5,), tuple),
    (covers.least_cover, (RING5,), tuple),
    (covers.fewest, (RING5,), int),
    (covers.cover_words, (RING5, 2), tuple),
    (covers.least_shares, (RING5, 2), int),
    (covers.is_tight, (RING5,), bool),
    (covers.is_cover, (PATH3, 1, (((0,), (1,)), ((2,),))), bool),
    (covers.is_cover, (PATH3, 1, [[[0], [1]], [[2]]]), bool),
    (covers.is_shares, (PATH3, 1, (((0, 1), 1), ((2,), 1))), bool),
    (covers.is_shares, (PATH3, 1, [[[0, 1], 1], [[2], 1]]), bool),
    (kinds.form, (RING5,), tuple),
    (kinds.renaming, (RING5, tables.turned(RING5)), tuple),
    (kinds.renaming, (RING5, PATH3), type(None)),
    (kinds.turns, (RING5,), int),
    (kinds.all_kinds, (4,), tuple),
    (kinds.beside, (RING5, PATH3), tuple),
    (kinds.times, (RING5, PATH3), tuple),
    (kinds.alike, (RING5, tables.turned(RING5)), bool),
    (kinds.alike, (RING5, PATH3), bool),
    (hearing.sent, (CHANNEL, CODE, (1, 1)), tuple),
    (hearing.told, (CHANNEL, CODE, (0, 1)), tuple),
    (hearing.heard_all, (CHANNEL, (1, 0, 2)), tuple),
    (hearing.most_heard, (CHANNEL, CODE), int),
    (hearing.most_heard, (CHANNEL, ()), int),
    (hearing.listed, (CHANNEL, 2), int),
    (hearing.is_sure, (CHANNEL, CODE), bool),
    (hearing.is_sure, (CHANNEL, ()), bool),
    (texts.written, (RING5,), str),
    (texts.read, ("5:01,04,12,23,34",), tuple),
    (texts.read, ("3:",), tuple),
)

# What is refused, and by which refusal.
REFUSED = (
    (hearing.told, (CHANNEL, CODE, (5, 5)), errors.NoSign),
    (hearing.told, (CHANNEL, ((0,), (1,)), (1,)), errors.NoSign),
    (texts.read, ("3:10",), errors.NoText),
    (texts.read, ("",), errors.NoText),
)

NAMES = {
    errors: "MistakeError NoText NoSign",
    tables: "is_table is_channel mixed near turned part renamed table_of channel_of",
    words: "words power clash addable grown mixed_words is_code is_full",
    most: "most best_code all_best needed",
    covers: "groups least_cover fewest cover_words least_shares is_tight is_cover is_shares",
    kinds: "form renaming turns all_kinds beside times alike",
    hearing: "sent told heard_all most_heard listed is_sure",
    texts: "written read",
}


class Interface(unittest.TestCase):
    def test_every_name_exists(self):
        for module, names in NAMES.items():
            for name in names.split():
                self.assertTrue(callable(getattr(module, name)), name)

    def test_every_function_is_asked_here(self):
        asked = {function.__name__ for function, given, kind in ASKED}
        due = {name for module, names in NAMES.items() if module is not errors for name in names.split()}
        self.assertEqual(asked, due)

    def test_kinds_of_values(self):
        for function, given, kind in ASKED:
            value = function(*given)
            self.assertIs(type(value), kind, function.__name__)
            self.assertTrue(helpers.is_told(value), function.__name__)
            if kind is not bool:
                self.assertFalse(helpers.holds_truth(value), function.__name__)

    def test_asked_again_the_same_is_told(self):
        for function, given, kind in ASKED + ASKED[::-1]:
            kept = copy.deepcopy(given)
            first = repr(function(*given))
            self.assertEqual(repr(function(*given)), first)
            self.assertEqual(repr(given), repr(kept))

    def test_refused_each_time(self):
        for function, given, refusal in REFUSED + REFUSED[::-1]:
            with self.assertRaises(errors.MistakeError) as caught:
                function(*given)
            self.assertIs(type(caught.exception), refusal)


if __name__ == "__main__":
    unittest.main()
