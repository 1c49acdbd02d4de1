"""Tables of signs that may be mistaken, and the channels by which they are heard."""

MOST_SIGNS = 6
MOST_LETTERS = 6


def is_whole(thing):
    """Whether a thing is a whole number; a truth is none, though Python counts it among them."""
    return isinstance(thing, int) and not isinstance(thing, bool)


def is_sign(thing, many):
    """Whether a thing is one of so many signs."""
    return is_whole(thing) and 0 <= thing < many


def is_pair(thing, many):
    """Whether a thing is a pair of two of so many signs, the lesser first."""
    if not isinstance(thing, tuple) or len(thing) != 2:
        return False
    one, other = thing
    return is_sign(one, many) and is_sign(other, many) and one < other


def is_letter(thing):
    """Whether a thing is a letter of a channel."""
    return is_sign(thing, MOST_LETTERS)


def rises(row):
    """Whether each of a row is greater than the one before it."""
    return all(row[at] < row[at + 1] for at in range(len(row) - 1))


def is_table(thing):
    """Whether any thing is a table."""
    if not isinstance(thing, tuple) or len(thing) != 2:
        return False
    many, pairs = thing
    if not is_whole(many) or not 1 <= many <= MOST_SIGNS or not isinstance(pairs, tuple):
        return False
    # The order is asked last: things of unlike kinds cannot be compared.
    return all(is_pair(pair, many) for pair in pairs) and rises(pairs)


def is_heard(thing):
    """Whether a thing is what one sign of a channel may be heard as."""
    if not isinstance(thing, tuple) or len(thing) == 0:
        return False
    return all(is_letter(letter) for letter in thing) and rises(thing)


def is_channel(thing):
    """Whether any thing is a channel."""
    if not isinstance(thing, tuple) or not 1 <= len(thing) <= MOST_SIGNS:
        return False
    return all(is_heard(letters) for letters in thing)


def has_pair(pairs, pair):
    """Whether a pair is among rising pairs."""
    # By halves, as the tables of long words have tens of thousands of pairs.
    low = 0
    high = len(pairs)
    while low < high:
        middle = (low + high) // 2
        if pairs[middle] < pair:
            low = middle + 1
        else:
            high = middle
    return low < len(pairs) and pairs[low] == pair


def mixed(table, one, other):
    """Whether both are one sign, or may be mistaken."""
    if one == other:
        return True
    return has_pair(table[1], (min(one, other), max(one, other)))


def near(table, sign):
    """All signs that are the same as a sign or may be mistaken for it, rising."""
    return tuple([other for other in range(table[0]) if mixed(table, sign, other)])


def all_pairs(many):
    """All pairs of so many signs, rising."""
    return [(one, other) for one in range(many) for other in range(one + 1, many)]


def turned(table):
    """The table of all other pairs."""
    many = table[0]
    return many, tuple([(one, other) for one, other in all_pairs(many) if not mixed(table, one, other)])


def part(table, signs):
    """The table of some unlike signs, numbered by their places."""
    many = len(signs)
    pairs = [(one, other) for one, other in all_pairs(many) if mixed(table, signs[one], signs[other])]
    return many, tuple(pairs)


def renamed(table, names):
    """The table in which each sign is called by what stands at its place in names."""
    many, pairs = table
    called = [(names[one], names[other]) for one, other in pairs]
    return many, tuple(sorted([(min(pair), max(pair)) for pair in called]))


def share_letter(letters, others):
    """Whether some letter stands in both."""
    return any(letter in others for letter in letters)


def table_of(channel):
    """The table of all pairs of signs that may be heard as one letter."""
    many = len(channel)
    pairs = [(one, other) for one, other in all_pairs(many) if share_letter(channel[one], channel[other])]
    return many, tuple(pairs)


def channel_of(table):
    """A channel with one letter of each sign's own, and one for each pair of the table."""
    many, pairs = table
    heard = [[sign] for sign in range(many)]
    for place, (one, other) in enumerate(pairs):
        heard[one].append(many + place)
        heard[other].append(many + place)
    return tuple([tuple(letters) for letters in heard])
