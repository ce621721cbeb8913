"""Paintings turned by two matings in turn, again and again, till they are the same again.

Turns are done on the marks of a painting: a flip of a strand changes marks at its corners alone.
"""

from tiewheel.clusters.crossed import QUIET_BORDER, QUIET_CELL, crossed_flags
from tiewheel.matings.strands import is_round, strand_rows, strand_table
from tiewheel.paintings.paintings import HAND_BITS, is_marked, need_painting
from tiewheel.webs.errors import NoNumber, TooFar
from tiewheel.webs.helper import is_whole
from tiewheel.webs.webs import HANDS
from tiewheel.wheels.wheels import need_turns, need_two

MOST_BEATS = 1000


class Turner:
    """What turns by one mating need.

    mating is that mating; corners has for each strand a list of (post, marks of the corner's two
    hands), meets for each post the numbers of the strands of its two corners; longer has of each
    strand that may be loud (number, posts, how many of its corners have to be not crossed where
    it is not).
    """

    def __init__(self, beyond, mating):
        rows = strand_rows(beyond, mating)
        table = strand_table(rows)
        self.mating = mating
        self.corners = [corner_marks(row) for row in rows]
        self.meets = [sorted(set(table[HANDS * post:HANDS * post + HANDS])) for post in range(len(mating))]
        self.longer = []
        for number, row in enumerate(rows):
            spare = len(row) // 2 - (QUIET_CELL if is_round(beyond, row) else QUIET_BORDER)
            if spare > 0:
                self.longer.append((number, [hand // HANDS for hand in row[::2]], spare))


def corner_marks(row):
    """For each corner of a strand (post, marks of its two hands)."""
    return [
        (one // HANDS, HAND_BITS[one % HANDS] + HAND_BITS[other % HANDS]) for one, other in zip(row[::2], row[1::2])
    ]


def loud_alone(turner, flags):
    """The numbers of the loud strands; flags tell of each post whether it is crossed."""
    found = []
    for number, posts, spare in turner.longer:
        left = spare
        for post in posts:
            if not flags[post]:
                left -= 1
                if left == 0:
                    break
        else:
            found.append(number)
    return found


def loud_strands(turner, flags):
    """The numbers of all strands of loud clusters."""
    found = loud_alone(turner, flags)
    met = {number: True for number in found}
    at = 0
    while at < len(found):
        here = found[at]
        for post, _ in turner.corners[here]:
            if not flags[post]:
                for number in turner.meets[post]:
                    if number not in met:
                        met[number] = True
                        found.append(number)
        at += 1
    return found


def turned_marks(turner, marks):
    """The marks of a painting turned."""
    told = list(marks)
    for number in loud_strands(turner, crossed_flags(marks, turner.mating)):
        for post, bits in turner.corners[number]:
            told[post] ^= bits
    return told


def need_beats(most):
    """Refuses what is no whole number that most may be."""
    if not is_whole(most) or not 1 <= most <= MOST_BEATS:
        raise NoNumber(most)


def turns_told(turners, marks, turns):
    """The marks ahead of all turns and behind each of so many, up to where they are those of the first again.

    These are told no more, and are so behind whole beats alone: the one turner turns, then the other.
    """
    told = [marks]
    while len(told) <= turns:
        here = turned_marks(turners[(len(told) - 1) & 1], told[-1])
        if len(told) & 1 == 0 and here == marks:
            break
        told.append(here)
    return told


def round_of(web, first, second, painting, *, most=MOST_BEATS):
    """The least number of beats behind which the painting is the same again."""
    beyond = need_two(web, first, second)
    marks = need_painting(web, painting)
    need_beats(most)
    told = turns_told((Turner(beyond, first), Turner(beyond, second)), marks, 2 * most)
    if len(told) > 2 * most:
        raise TooFar("a round of more beats than may be tried")
    return len(told) // 2


def painting_behind(web, first, second, painting, turns, *, begin=0, most=MOST_BEATS):
    """The painting behind so many turns."""
    beyond = need_two(web, first, second)
    marks = need_painting(web, painting)
    need_turns(turns, begin)
    need_beats(most)
    turners = (Turner(beyond, first), Turner(beyond, second))
    told = turns_told(turners[::-1] if begin else turners, marks, min(turns, 2 * most))
    if turns > 2 * most and len(told) > 2 * most:
        raise TooFar("a round of more beats than may be tried")
    # Where marks came round they are told up to there, and else all.
    here = told[turns % len(told)]
    return tuple([number for number, way in enumerate(web[1]) if is_marked(here, way[0])])
