"""Tables that are alike but for names, and tables made of two."""

from mistakesigns.tables import all_pairs, mixed, near, renamed


def keeps(one, other, names, name):
    """Whether one more name, put behind names for the first signs, is unlike them and keeps what may be mistaken."""
    if name in names:
        return False
    sign = len(names)
    return all(mixed(one, at, sign) == mixed(other, called, name) for at, called in enumerate(names))


def all_renamings(one, other):
    """All names that make one table the other, rising."""
    if one[0] != other[0]:
        return []
    found = [()]
    for sign in range(one[0]):
        found = [(*names, name) for names in found for name in range(other[0]) if keeps(one, other, names, name)]
    return found


def all_names(many):
    """All orders of so many signs, rising."""
    # Whatever the names, a table without pairs stays as it is.
    return all_renamings((many, ()), (many, ()))


def form(table):
    """Of all tables that a table becomes by names, the least."""
    return min([renamed(table, names) for names in all_names(table[0])])


def renaming(one, other):
    """The least names that make one table the other; None."""
    found = all_renamings(one, other)
    return found[0] if found else None


def alike(one, other):
    """Whether names make one table the other."""
    return renaming(one, other) is not None


def turns(table):
    """How many names make a table itself."""
    return len(all_renamings(table, table))


def all_tables(many):
    """All tables of so many signs."""
    found = [()]
    for pair in all_pairs(many):
        found = found + [(*pairs, pair) for pairs in found]
    return [(many, pairs) for pairs in found]


def all_kinds(many):
    """The forms of all tables of so many signs, rising."""
    every = all_names(many)
    seen = set()
    kinds = []
    for table in sorted(all_tables(many)):
        # As the tables rise, the first of a kind is the least of it.
        if table not in seen:
            kinds.append(table)
            for names in every:
                seen.add(renamed(table, names))
    return tuple(kinds)


def beside(one, other):
    """The signs of one table, then those of the other, numbered on, with the pairs of both."""
    many = one[0]
    moved = [(many + low, many + high) for low, high in other[1]]
    return many + other[0], (*one[1], *moved)


def times(one, other):
    """The table of all pairs of a sign of each, mistaken if both parts are the same or may be."""
    many = other[0]
    near_one = [near(one, sign) for sign in range(one[0])]
    near_other = [near(other, sign) for sign in range(many)]
    pairs = [(many * first + second, many * third + fourth)
             for first in range(one[0]) for second in range(many)
             for third in near_one[first] for fourth in near_other[second]
             if (first, second) < (third, fourth)]
    return one[0] * many, tuple(pairs)
