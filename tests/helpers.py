"""What the tests share: tables to try, and slow plain ways to the same answers."""

import itertools

RING5 = (5, ((0, 1), (0, 4), (1, 2), (2, 3), (3, 4)))
RING6 = (6, ((0, 1), (0, 5), (1, 2), (2, 3), (3, 4), (4, 5)))
PATH3 = (3, ((0, 1), (1, 2)))

ODD = (
    None, True, False, -1, 0, 1, 2, 3, 5, 6, 7, 10 ** 30, "", "0", "01", "ab", (), [], (0,), [0], (0, 1), [0, 1],
    (1, 0), (0, 0), (1, 1), (0, 1, 2), (True, 2), (False, 1), (0, True), (0, "1"), ("0", 1), (None, 1), (0, None),
    ((0, 1),), [(0, 1)], ([0, 1],), ((0, 1), (0, 1)), ((0, 2), (0, 1)), ((((0,),),),), [[[[[0]]]]], (-1, 0),
)


def tables(many):
    """All tables of so many signs."""
    pairs = list(itertools.combinations(range(many), 2))
    for size in range(len(pairs) + 1):
        for some in itertools.combinations(pairs, size):
            yield (many, some)


def small_tables(most=4):
    for many in range(1, most + 1):
        yield from tables(many)


def some_tables(many, step):
    """Each step-th table of so many signs: few, but with all numbers of pairs."""
    return list(tables(many))[::step]


def links(table):
    """All ordered couples of signs that are the same or may be mistaken."""
    couples = {(sign, sign) for sign in range(table[0])}
    for one, other in table[1]:
        couples |= {(one, other), (other, one)}
    return couples


def full(many):
    """The table of so many signs with all pairs."""
    return (many, tuple(itertools.combinations(range(many), 2)))


def all_words(many, long):
    return tuple(itertools.product(range(many), repeat=long))


def words_mixed(couples, one, other):
    return False not in [couple in couples for couple in zip(one, other)]


def is_plain_code(couples, some):
    return not any(words_mixed(couples, one, other) for one, other in itertools.combinations(some, 2))


def plain_groups(table):
    """All groups, whether signs can come to them or not."""
    couples = links(table)
    rows = [row for size in range(1, table[0] + 1) for row in itertools.combinations(range(table[0]), size)]
    return [row for row in rows if all(pair in couples for pair in itertools.combinations(row, 2))]


def codes_by_size(table, long):
    """The least rising code of each size there is, found by trying all in their order."""
    couples = links(table)
    every = all_words(table[0], long)
    least = {}

    def go(code, rest):
        least.setdefault(len(code), code)
        for at, word in enumerate(rest):
            apart = tuple(later for later in rest[at + 1:] if not words_mixed(couples, word, later))
            go(code + (word,), apart)

    go((), every)
    return least


def is_told(thing):
    """Whether a thing is of the kinds that may be told, all through."""
    if type(thing) is tuple:
        return all(is_told(item) for item in thing)
    return type(thing) in (int, str, bool, type(None))


def holds_truth(thing):
    """Whether a truth stands somewhere in a thing."""
    if type(thing) is tuple:
        return any(holds_truth(item) for item in thing)
    return type(thing) is bool


def changes(thing):
    """The thing with one spot of it, at any depth, made something else."""
    yield from ODD
    if type(thing) is tuple:
        yield list(thing)
        yield thing[::-1]
        yield thing + thing[-1:]
        yield thing[:-1]
        for at, item in enumerate(thing):
            for other in changes(item):
                yield thing[:at] + (other,) + thing[at + 1:]
    if type(thing) is int:
        yield thing - 1
        yield thing + 1
        yield str(thing)


def channels(many, letters):
    """All channels of so many signs by so many letters."""
    rows = [row for size in range(1, letters + 1) for row in itertools.combinations(range(letters), size)]
    return itertools.product(rows, repeat=many)


def some_channels():
    """All channels of few signs and letters, and some of more, those of tables among them."""
    yield from channels(1, 3)
    yield from channels(2, 3)
    yield from itertools.islice(channels(3, 3), 0, None, 5)
    yield from itertools.islice(channels(3, 6), 7, None, 7001)
    yield from itertools.islice(channels(4, 4), 3, None, 2503)
    yield ((0, 1), (1, 2), (2, 3), (3, 4), (0, 4))
    yield ((0, 1, 2), (2, 3), (3, 4, 5), (0, 5), (1, 4), (2, 5))
    yield ((0, 5), (1, 6), (2, 5, 7), (3, 6, 8), (4, 7, 8))


def heard_of(channel, word):
    """All tuples of letters as which a word may be heard."""
    return list(itertools.product(*[channel[sign] for sign in word]))
