"""What was sent, by what was heard."""

from mistakesigns.errors import NoSign
from mistakesigns.most import all_bits, signs_of
from mistakesigns.tables import table_of
from mistakesigns.words import is_code, one_of_each


def may_be_heard(channel, word, heard):
    """Whether a word may be heard as these letters."""
    return all(letter in channel[sign] for sign, letter in zip(word, heard))


def sent(channel, some, heard):
    """The places of all words that may be heard as these letters, rising."""
    return tuple([place for place, word in enumerate(some) if may_be_heard(channel, word, heard)])


def told(channel, some, heard):
    """The word that may be heard as these letters, if there is just one; else NoSign."""
    places = sent(channel, some, heard)
    if len(places) != 1:
        raise NoSign(f"{len(places)} words may be heard as these letters")
    return some[places[0]]


def is_sure(channel, some):
    """Whether no letters may be heard of two of the words."""
    return is_code(table_of(channel), some)


def heard_all(channel, word):
    """All tuples of letters as which a word may be heard, rising."""
    return one_of_each([channel[sign] for sign in word])


def heard_bits(channel, signs):
    """For each letter, the places of the signs that may be heard as it, place k as the bit 1 << k."""
    bits = {}
    for place, sign in enumerate(signs):
        for letter in channel[sign]:
            bits[letter] = bits.get(letter, 0) | (1 << place)
    return list(bits.values())


def most_heard(channel, some):
    """The most of the words that may be heard alike; 0 of none."""
    alike = {all_bits(len(some)): True}
    # Many letters before one leave the same words, which are gone on with once.
    for signs in zip(*some):
        by_letter = heard_bits(channel, signs)
        alike = {bits & heard: True for bits in alike for heard in by_letter}
    return max([len(signs_of(bits)) for bits in alike])


def listed(channel, many):
    """How many signs there are at the most of which no letter is heard of more than many."""
    by_letter = heard_bits(channel, list(range(len(channel))))
    fitting = [bits for bits in range(1 << len(channel))
               if all(len(signs_of(bits & heard)) <= many for heard in by_letter)]
    return max([len(signs_of(bits)) for bits in fitting])
