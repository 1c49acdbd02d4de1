"""What the tests share: tables to try, and slow plain ways to the same answers."""

import itertools

RING5 = (5, ((0, 1), (0, 4), (1, 2), (2, 3), (3, 4)))
RING6 = (6, ((0, 1), (0, 5), (1, 2), (2, 3), (3, 4), (4, 5)))
PATH3 = (3, ((0, 1), (1, 2)))


def tables(many):
    """All tables of so many signs."""
    pairs = list(itertools.combinations(range(many), 2))
    for size in range(len(pairs) + 1):
        for some in itertools.combinations(pairs, size):
            yield (many, some)


def small_tables(most=4):
    for many in range(1, most + 1):
        yield from tables(many)


def some_tables(many, step):
    """Each step-th table of so many signs: few, but with all numbers of pairs."""
    return list(tables(many))[::step]


def links(table):
    """All ordered couples of signs that are the same or may be mistaken."""
    couples = {(sign, sign) for sign in range(table[0])}
    for one, other in table[1]:
        couples |= {(one, other), (other, one)}
    return couples


def all_words(many, long):
    return tuple(itertools.product(range(many), repeat=long))


def words_mixed(couples, one, other):
    return False not in [couple in couples for couple in zip(one, other)]


def is_plain_code(couples, some):
    return not any(words_mixed(couples, one, other) for one, other in itertools.combinations(some, 2))


def codes_by_size(table, long):
    """The least rising code of each size there is, found by trying all in their order."""
    couples = links(table)
    every = all_words(table[0], long)
    least = {}

    def go(code, rest):
        least.setdefault(len(code), code)
        for at, word in enumerate(rest):
            apart = tuple(later for later in rest[at + 1:] if not words_mixed(couples, word, later))
            go(code + (word,), apart)

    go((), every)
    return least


def is_told(thing):
    """Whether a thing is of the kinds that may be told, all through."""
    if type(thing) is tuple:
        return all(is_told(item) for item in thing)
    return type(thing) in (int, str, bool, type(None))


def holds_truth(thing):
    """Whether a truth stands somewhere in a thing."""
    if type(thing) is tuple:
        return any(holds_truth(item) for item in thing)
    return type(thing) is bool
