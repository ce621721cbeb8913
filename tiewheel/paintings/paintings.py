"""Paintings: ways painted such that two of each post's hands are."""

from tiewheel.matings.matings import MATE_BITS, need_mating
from tiewheel.matings.strands import post_pairs, strand_rows
from tiewheel.webs.errors import NoPainting
from tiewheel.webs.helper import are_below, both_ways, forest, is_rising_below, is_row_of_two, path_to
from tiewheel.webs.webs import HANDS, end_hands, need_hand, need_web


def painted_flags(web, painting):
    """For each hand whether it is painted."""
    flags = [False] * (HANDS * web[0])
    for number in painting:
        for hand in web[1][number]:
            flags[hand] = True
    return flags


def painting_of(web, flags):
    """The numbers of the ways whose hands are painted."""
    return tuple([number for number, way in enumerate(web[1]) if flags[way[0]]])


def paints(web, thing):
    """As `is_painting`, of what surely is a web."""
    if not is_rising_below(thing, len(web[1])):
        return False
    flags = painted_flags(web, thing)
    return all([flags[first:first + HANDS].count(True) == 2 for first in range(0, len(flags), HANDS)])


def need_painting(web, painting):
    """Refuses what is no painting of the web."""
    if not paints(web, painting):
        raise NoPainting("no painting of the web")


def own_row(web, painting):
    """A painting's own mating."""
    flags = painted_flags(web, painting)
    row = []
    for first in range(0, len(flags), HANDS):
        one, other = [hand for hand in range(HANDS) if flags[first + hand]]
        row.append(MATE_BITS.index(one ^ other))
    return tuple(row)


def ends_painted(web, painting):
    """The painted ends, rising."""
    flags = painted_flags(web, painting)
    return tuple([hand for hand in end_hands(web) if flags[hand]])


def is_painting(web, thing):
    """Whether a thing is a painting of the web."""
    need_web(web)
    return paints(web, thing)


def bared(web, painting):
    """The painting of just the bare ways."""
    need_web(web)
    need_painting(web, painting)
    return tuple([number for number in range(len(web[1])) if number not in painting])


def own_mating(web, painting):
    """The mating by which at each post the painted hands are mates, and the bare ones."""
    need_web(web)
    need_painting(web, painting)
    return own_row(web, painting)


def is_painted(web, painting, hand):
    """Whether a hand is painted."""
    need_web(web)
    need_painting(web, painting)
    need_hand(web, hand)
    return painted_flags(web, painting)[hand]


def painted_ends(web, painting):
    """The painted ends, rising."""
    need_web(web)
    need_painting(web, painting)
    return ends_painted(web, painting)


def owned(web, mating):
    """("painting", one whose own the mating is), or ("odd", strands) where there is none."""
    need_web(web)
    need_mating(web, mating)
    rows = strand_rows(web, mating)
    pairs = post_pairs(rows, mating, list(range(web[0])))
    ahead = forest(len(rows), pairs)
    shades = [len(path_to(ahead, number)) & 1 for number in range(len(rows))]
    for one, other in pairs:
        if shades[one] == shades[other]:
            return ("odd", odd_row(ahead, one, other))
    flags = [False] * (HANDS * web[0])
    for number, row in enumerate(rows):
        for hand in row:
            flags[hand] = shades[number] == 1
    return ("painting", painting_of(web, flags))


def odd_row(ahead, one, other):
    """From the start on to the one, from the other, which meets it, back to the start."""
    return tuple(path_to(ahead, one) + path_to(ahead, other)[:0:-1])


def shows_owned(web, mating, thing):
    """Whether a thing is one of what `owned` may tell."""
    need_web(web)
    need_mating(web, mating)
    if not is_row_of_two(thing):
        return False
    word, told = thing
    if word == "painting":
        return paints(web, told) and own_row(web, told) == mating
    return word == "odd" and is_odd_row(web, mating, told)


def is_odd_row(web, mating, thing):
    """Whether a thing is a row of oddly many strands that meet round about."""
    rows = strand_rows(web, mating)
    if not are_below(thing, len(rows)) or len(thing) & 1 == 0:
        return False
    meeting = both_ways(post_pairs(rows, mating, list(range(web[0]))))
    return all([pair in meeting for pair in zip(thing, thing[1:] + thing[:1])])
