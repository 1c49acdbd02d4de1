"""Codes with the most words.

Sets of signs are held as whole numbers here, sign k as the bit 1 << k, as
many of them are built and looked up while the most is sought.
"""

from mistakesigns.tables import mixed
from mistakesigns.words import power, words


def near_bits(table):
    """For each sign, all signs that are the same or may be mistaken for it."""
    many, pairs = table
    bits = [1 << sign for sign in range(many)]
    for one, other in pairs:
        bits[one] |= 1 << other
        bits[other] |= 1 << one
    return bits


def all_bits(many):
    """All of so many signs."""
    return (1 << many) - 1


def signs_of(bits):
    """The signs of a set, rising."""
    signs = []
    while bits:
        lowest = bits & -bits
        signs.append(lowest.bit_length() - 1)
        bits -= lowest
    return signs


def free_sign(near, left):
    """A sign whose near ones among those left are all near one another; None."""
    for sign in signs_of(left):
        around = near[sign] & left
        if all(around & ~near[other] == 0 for other in signs_of(around)):
            return sign
    return None


def busiest(near, left):
    """The sign with the most near ones among those left."""
    return max(signs_of(left), key=lambda sign: len(signs_of(near[sign] & left)))


def most_left(near, left, known):
    """How many of the signs left are surely told apart at the most; known holds what was found before."""
    taken = 0
    sign = free_sign(near, left)
    # At most one of a free sign and its near ones is in a code, and it hinders none but them.
    while sign is not None:
        taken += 1
        left &= ~near[sign]
        sign = free_sign(near, left)
    if left and left not in known:
        known[left] = most_with_or_without(near, left, busiest(near, left), known)
    return taken + known.get(left, 0)


def most_with_or_without(near, left, sign, known):
    """How many are told apart at the most, by whether a sign is among them."""
    taking = 1 + most_left(near, left & ~near[sign], known)
    leaving = most_left(near, left & ~(1 << sign), known)
    return max(taking, leaving)


def most(table, long):
    """How many words a code of words so long has at the most."""
    near = near_bits(power(table, long))
    return most_left(near, all_bits(len(near)), {})


def best_code(table, long):
    """Of all rising codes of words so long with the most words, the least."""
    near = near_bits(power(table, long))
    left = all_bits(len(near))
    known = {}
    lacking = most_left(near, left, known)
    code = []
    for place, word in enumerate(words(table[0], long)):
        if not left & (1 << place):
            continue
        # All lesser words have left by now, so that only greater ones can follow.
        after = left & ~near[place]
        if 1 + most_left(near, after, known) == lacking:
            code.append(word)
            lacking -= 1
            left = after
        else:
            left &= ~(1 << place)
    return tuple(code)


def with_greater(table, signs):
    """All rising tuples of signs that may not be mistaken, by one greater sign than these."""
    first = signs[-1] + 1 if signs else 0
    greater = [sign for sign in range(first, table[0]) if not any([mixed(table, sign, held) for held in signs])]
    return [(*signs, sign) for sign in greater]


def all_apart(table):
    """All rising tuples of signs that may not be mistaken, those of fewer signs first."""
    every = []
    longer = [()]
    while longer:
        every.extend(longer)
        longer = [more for signs in longer for more in with_greater(table, signs)]
    return every


def all_best(table):
    """All rising tuples of signs that may not be mistaken, with as many as can be; rising."""
    every = all_apart(table)
    return tuple([signs for signs in every if len(signs) == len(every[-1])])


def needed(table):
    """The signs that all codes of signs with the most have, rising."""
    best = all_best(table)
    return tuple([sign for sign in range(table[0]) if all(sign in signs for signs in best)])
