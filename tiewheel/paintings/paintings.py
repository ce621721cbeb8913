"""Paintings: ways painted such that two of each post's hands are.

Within the package marks go along with a painting: for each post a number with a bit for
each of its hands that is painted.
"""

from tiewheel.matings.matings import need_mating
from tiewheel.matings.strands import post_pairs, strand_rows, strand_table
from tiewheel.webs.errors import NoPainting
from tiewheel.webs.helper import are_below, both_ways, forest, is_rising_below, is_row_of_two, path_to
from tiewheel.webs.webs import HANDS, end_hands, need_hand, need_web

HAND_BITS = (1, 2, 4, 8)
# By the marks of a post, from 0 to 15, the mating by which its painted hands are mates, and its
# bare ones; None where other than two are painted.
OWN = (None, None, None, 0, None, 2, 1, None, None, 1, 2, None, 0, None, None, None)


def marks_of(web, ways):
    """For each post the bits of its hands that the ways so numbered have."""
    marks = [0] * web[0]
    for number in ways:
        for hand in web[1][number]:
            marks[hand // HANDS] += HAND_BITS[hand % HANDS]
    return marks


def painted_marks(web, thing):
    """The marks of a painting; None of what is none."""
    if not is_rising_below(thing, len(web[1])):
        return None
    marks = marks_of(web, thing)
    return marks if None not in own_row(marks) else None


def need_painting(web, painting):
    """The marks of a painting; refuses what is none of the web."""
    marks = painted_marks(web, painting)
    if marks is None:
        raise NoPainting("no painting of the web")
    return marks


def is_marked(marks, hand):
    """Whether a hand is painted."""
    return (marks[hand // HANDS] >> hand % HANDS) & 1 == 1


def own_row(marks):
    """A painting's own mating, by its marks."""
    return tuple([OWN[mark] for mark in marks])


def ends_marked(web, marks):
    """The painted ends, rising."""
    return tuple([hand for hand in end_hands(web) if is_marked(marks, hand)])


def bare_ways(web, painting):
    """The numbers of the ways that are not painted."""
    left = [True] * len(web[1])
    for number in painting:
        left[number] = False
    return tuple([number for number, is_left in enumerate(left) if is_left])


def is_painting(web, thing):
    """Whether a thing is a painting of the web."""
    need_web(web)
    return painted_marks(web, thing) is not None


def bared(web, painting):
    """The painting of just the bare ways."""
    need_web(web)
    need_painting(web, painting)
    return bare_ways(web, painting)


def own_mating(web, painting):
    """The mating by which at each post the painted hands are mates, and the bare ones."""
    need_web(web)
    return own_row(need_painting(web, painting))


def is_painted(web, painting, hand):
    """Whether a hand is painted."""
    beyond = need_web(web)
    marks = need_painting(web, painting)
    need_hand(beyond, hand)
    return is_marked(marks, hand)


def painted_ends(web, painting):
    """The painted ends, rising."""
    need_web(web)
    return ends_marked(web, need_painting(web, painting))


def owned(web, mating):
    """("painting", one whose own the mating is), or ("odd", strands) where there is none."""
    beyond = need_web(web)
    need_mating(web, mating)
    rows = strand_rows(beyond, mating)
    table = strand_table(rows)
    pairs = post_pairs(table, mating, list(range(web[0])))
    ahead = forest(len(rows), pairs)
    shades = [False] * len(rows)
    for number, from_number in ahead.items():
        shades[number] = from_number is None or not shades[from_number]
    for one, other in pairs:
        if shades[one] == shades[other]:
            return ("odd", odd_row(ahead, one, other))
    return ("painting", tuple([number for number, way in enumerate(web[1]) if shades[table[way[0]]]]))


def odd_row(ahead, one, other):
    """From the start on to the one, from the other, which meets it, back to the start."""
    return tuple(path_to(ahead, one) + path_to(ahead, other)[:0:-1])


def shows_owned(web, mating, thing):
    """Whether a thing is one of what `owned` may tell."""
    beyond = need_web(web)
    need_mating(web, mating)
    if not is_row_of_two(thing):
        return False
    word, told = thing
    if word == "painting":
        marks = painted_marks(web, told)
        return marks is not None and own_row(marks) == mating
    return word == "odd" and is_odd_row(beyond, mating, told)


def is_odd_row(beyond, mating, thing):
    """Whether a thing is a row of oddly many strands that meet round about."""
    rows = strand_rows(beyond, mating)
    if not are_below(thing, len(rows)) or len(thing) & 1 == 0:
        return False
    meeting = both_ways(post_pairs(strand_table(rows), mating, list(range(len(mating)))))
    return all([pair in meeting for pair in zip(thing, thing[1:] + thing[:1])])
