"""Groups of signs, each two of which may be mistaken: covers and shares of them, which bound the most."""

from mistakesigns.most import all_apart, most
from mistakesigns.tables import all_pairs, is_sign, is_whole, mixed, rises, turned
from mistakesigns.words import count_words, mixed_words, one_of_each, words


def all_groups(table):
    """All groups, rising."""
    # Of the turned table just the signs of a group may not be mistaken.
    return sorted([signs for signs in all_apart(turned(table)) if signs])


def fits_group(table, group, sign):
    """Whether a sign that a group has not may come to it."""
    return sign not in group and all(mixed(table, sign, held) for held in group)


def is_whole_group(table, group):
    """Whether no sign more can come to a group."""
    return not any(fits_group(table, group, sign) for sign in range(table[0]))


def groups(table):
    """All groups to which no sign more can come, rising."""
    return tuple([group for group in all_groups(table) if is_whole_group(table, group)])


def without(signs, group):
    """The signs that a group has not."""
    return tuple([sign for sign in signs if sign not in group])


def cover_left(every, left, known):
    """The least cover of the signs left, by groups out of every; known holds what was found before."""
    if not left:
        return ()
    if left not in known:
        # The group that stands first has the first sign, as groups stand by their first signs.
        firsts = [group for group in every if group[0] == left[0] and all(sign in left for sign in group)]
        covers = [(group,) + cover_left(every, without(left, group), known) for group in firsts]
        known[left] = min(covers, key=lambda cover: (len(cover), cover))
    return known[left]


def least_cover(table):
    """Groups with all signs, none with a sign of another one, as few as can be; of several the least."""
    return cover_left(all_groups(table), tuple(range(table[0])), {})


def fewest(table):
    """How many groups a cover has at least."""
    return len(least_cover(table))


def is_tight(table):
    """Whether there are as few groups as signs that are surely told apart."""
    return fewest(table) == most(table, 1)


def cover_words(table, long):
    """For each row of so many groups of the least cover, rising, all words with a sign of each, rising."""
    cover = least_cover(table)
    return tuple([one_of_each([cover[at] for at in row]) for row in words(len(cover), long)])


def is_word(thing, many, long):
    """Whether a thing is a word so long of so many signs."""
    return isinstance(thing, tuple) and len(thing) == long and all(is_sign(sign, many) for sign in thing)


def is_mixed_row(table, long, thing):
    """Whether a thing is a tuple of words so long, each two the same or such as may be mistaken."""
    if not isinstance(thing, tuple) or not all(is_word(word, table[0], long) for word in thing):
        return False
    return all(mixed_words(table, thing[one], thing[other]) for one, other in all_pairs(len(thing)))


def is_cover(table, long, thing):
    """Whether any thing is a tuple of tuples of words that may be mistaken, with all words so long."""
    if not isinstance(thing, tuple) or not all(is_mixed_row(table, long, row) for row in thing):
        return False
    come = {word: True for row in thing for word in row}
    return len(come) == count_words(table[0], long)


def is_group_or_empty(table, thing):
    """Whether a thing is a group, or the tuple of no sign."""
    if not isinstance(thing, tuple) or not all(is_sign(sign, table[0]) for sign in thing):
        return False
    return rises(thing) and all(mixed(table, thing[one], thing[other]) for one, other in all_pairs(len(thing)))


def is_share(table, by, thing):
    """Whether a thing is a pair of a group, or of no sign, and how often it comes."""
    if not isinstance(thing, tuple) or len(thing) != 2:
        return False
    group, often = thing
    return is_whole(often) and 1 <= often <= by and is_group_or_empty(table, group)


def is_shares(table, by, thing):
    """Whether any thing is a tuple of groups and how often they come, by which each sign comes by times."""
    if not isinstance(thing, tuple) or not all(is_share(table, by, share) for share in thing):
        return False
    comes = [sum([often for group, often in thing if sign in group]) for sign in range(table[0])]
    return all(times >= by for times in comes)


def lacking_after(lacking, group):
    """How often each sign is lacking yet, when a group has come once more."""
    return tuple([max(0, times - 1) if sign in group else times for sign, times in enumerate(lacking)])


def first_lacking(lacking):
    """The least sign that is lacking yet."""
    return min([sign for sign, times in enumerate(lacking) if times > 0])


def least_shares(table, by):
    """The least number of times together with which each sign comes by times."""
    every = groups(table)
    met = (0,) * table[0]
    reached = {(by,) * table[0]: True}
    times = 0
    while met not in reached:
        # Some group must come for the first sign that is lacking; smaller groups help no more than whole ones.
        reached = {lacking_after(lacking, group): True
                   for lacking in reached for group in every if first_lacking(lacking) in group}
        times += 1
    return times
