"""Permutations: rows of the numbers from 0 to below their size, each once."""

from tiewheel.webs.errors import NoLabels, NoNumber
from tiewheel.webs.helper import are_below, is_whole

MOST_SIZE = 5


def is_perm(thing):
    """Whether a thing is a permutation."""
    if not isinstance(thing, tuple) or not 1 <= len(thing) <= MOST_SIZE:
        return False
    return are_below(thing, len(thing)) and sorted(thing) == list(range(len(thing)))


def are_perms(thing):
    """Whether a thing is a row of permutations of one size."""
    if not isinstance(thing, tuple):
        return False
    if not thing:
        return True
    if not is_perm(thing[0]):
        return False
    row = list(range(len(thing[0])))
    if not all([isinstance(perm, tuple) for perm in thing]):
        return False
    if not all([isinstance(part, int) and not isinstance(part, bool) for perm in thing for part in perm]):
        return False
    return all([sorted(perm) == row for perm in thing])


def need_perm(thing):
    """Refuses what is no permutation."""
    if not is_perm(thing):
        raise NoLabels("no permutation")


def plain_unit(size):
    """The unit of a size, which may be 0."""
    return tuple(range(size))


def chained(one, other):
    """First one, then other: the row that has at x what other has at one's x."""
    return tuple([other[x] for x in one])


def chained_back(one, other):
    """First one, then other's inverse."""
    return tuple([other.index(x) for x in one])


def undone(one):
    """The inverse of a permutation."""
    row = [0] * len(one)
    for at, x in enumerate(one):
        row[x] = at
    return tuple(row)


def cycle_lengths(one):
    """How long the cycles of a permutation are, from the least on."""
    met = [False] * len(one)
    lengths = []
    for start in range(len(one)):
        long = 0
        at = start
        while not met[at]:
            met[at] = True
            at = one[at]
            long += 1
        if long > 0:
            lengths.append(long)
    return tuple(sorted(lengths))


def unit(size):
    """The permutation of a size that leaves each number where it is."""
    if not is_whole(size) or not 1 <= size <= MOST_SIZE:
        raise NoNumber(size)
    return plain_unit(size)


def then(one, other):
    """First one, then other, of one size."""
    need_perm(one)
    need_perm(other)
    if len(one) != len(other):
        raise NoLabels("permutations of unlike sizes")
    return chained(one, other)


def inverse(one):
    """The permutation by which what one did is undone."""
    need_perm(one)
    return undone(one)


def cycles(one):
    """How long the cycles are, those of one number too, from the least on."""
    need_perm(one)
    return cycle_lengths(one)
