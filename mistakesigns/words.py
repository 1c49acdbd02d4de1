"""Words of signs, and codes: words that are surely told apart."""

from mistakesigns.tables import all_pairs, mixed


def count_words(many, long):
    """How many words so long there are of so many signs."""
    count = 1
    for place in range(long):
        count *= many
    return count


def one_of_each(choices):
    """All tuples with one of each of some rising tuples, rising."""
    found = [()]
    for choice in choices:
        found = [(*before, taken) for before in found for taken in choice]
    return tuple(found)


def words(many, long):
    """All words so long of so many signs, rising."""
    return one_of_each([tuple(range(many))] * long)


def mixed_words(table, one, other):
    """Whether two words are the same, or may be mistaken."""
    return all(mixed(table, sign, against) for sign, against in zip(one, other))


def mixed_places(table, some):
    """All pairs of places of words that are the same or may be mistaken, rising, one by one."""
    for one, other in all_pairs(len(some)):
        if mixed_words(table, some[one], some[other]):
            yield (one, other)


def power(table, long):
    """The table of all words so long, numbered as they rise."""
    every = words(table[0], long)
    return len(every), tuple(mixed_places(table, every))


def clash(table, some):
    """The least pair of places of words that are the same or may be mistaken; None."""
    for pair in mixed_places(table, some):
        return pair
    return None


def is_code(table, some):
    """Whether each two of the words are surely told apart."""
    return clash(table, some) is None


def is_told_from(table, some, word):
    """Whether a word is surely told from each of some words."""
    return not any(mixed_words(table, word, other) for other in some)


def addable(table, some, long):
    """All words so long that are surely told from each of a code, rising."""
    return tuple([word for word in words(table[0], long) if is_told_from(table, some, word)])


def is_full(table, some, long):
    """Whether no word so long is surely told from each of a code."""
    return addable(table, some, long) == ()


def grown(table, some, long):
    """A code with each word more, from the least on, that is surely told from all it then has."""
    code = list(some)
    for word in words(table[0], long):
        if is_told_from(table, code, word):
            code.append(word)
    return tuple(code)
