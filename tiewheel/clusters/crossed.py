"""Crossed posts: those where a mating isn't the painting's own one."""

from tiewheel.matings.matings import need_mating
from tiewheel.matings.strands import strand_rows
from tiewheel.paintings.paintings import need_painting, own_row
from tiewheel.webs.webs import HANDS, need_number, need_web

# How many crossed corners a cell, a border has where it is not loud yet.
QUIET_CELL = 2
QUIET_BORDER = 1


def crossed_flags(marks, mating):
    """For each post whether it is crossed."""
    return [one != other for one, other in zip(own_row(marks), mating)]


def corners_crossed(flags, row):
    """The numbers of a strand's crossed corners, rising; flags tell of each post whether it is crossed."""
    return tuple([at for at, hand in enumerate(row[::2]) if flags[hand // HANDS]])


def loud_flags(beyond, flags, rows):
    """For each strand whether it is loud."""
    return [
        len([True for hand in row[::2] if flags[hand // HANDS]])
        > (QUIET_BORDER if beyond[row[0]] is None else QUIET_CELL)
        for row in rows
    ]


def crossed(web, painting, mating):
    """The crossed posts, rising."""
    need_web(web)
    marks = need_painting(web, painting)
    need_mating(web, mating)
    flags = crossed_flags(marks, mating)
    return tuple([post for post in range(web[0]) if flags[post]])


def crossed_corners(web, painting, mating, number):
    """The numbers of the crossed corners of the strand so numbered, rising."""
    _, flags, rows = needed_strands(web, painting, mating)
    need_number(number, len(rows))
    return corners_crossed(flags, rows[number])


def is_loud(web, painting, mating, number):
    """Whether the strand so numbered is loud."""
    beyond, flags, rows = needed_strands(web, painting, mating)
    need_number(number, len(rows))
    return loud_flags(beyond, flags, rows[number:number + 1])[0]


def needed_strands(web, painting, mating):
    """(hands across, flags of crossed posts, strands), refusing what is no web, no painting, no mating."""
    beyond = need_web(web)
    marks = need_painting(web, painting)
    need_mating(web, mating)
    return beyond, crossed_flags(marks, mating), strand_rows(beyond, mating)
