"""Crossed posts: those where a mating isn't the painting's own one."""

from tiewheel.matings.matings import need_mating
from tiewheel.matings.strands import is_round, strand_rows
from tiewheel.paintings.paintings import need_painting, own_row
from tiewheel.webs.webs import HANDS, across_table, need_number, need_web

# How many crossed corners a cell, a border has where it is not loud yet.
QUIET_CELL = 2
QUIET_BORDER = 1


def need_mated_painting(web, painting, mating):
    """Refuses what is no web, then no painting, then no mating of it."""
    need_web(web)
    need_painting(web, painting)
    need_mating(web, mating)


def crossed_flags(web, painting, mating):
    """For each post whether it is crossed."""
    return [one != other for one, other in zip(own_row(web, painting), mating)]


def corners_crossed(flags, row):
    """The numbers of a strand's crossed corners, rising; flags tell of each post whether it is crossed."""
    return tuple([at for at, hand in enumerate(row[::2]) if flags[hand // HANDS]])


def loud_flags(web, painting, mating, rows):
    """For each strand whether it is loud."""
    beyond = across_table(web)
    flags = crossed_flags(web, painting, mating)
    most = [QUIET_CELL if is_round(beyond, row) else QUIET_BORDER for row in rows]
    return [len(corners_crossed(flags, row)) > few for row, few in zip(rows, most)]


def crossed(web, painting, mating):
    """The crossed posts, rising."""
    need_mated_painting(web, painting, mating)
    flags = crossed_flags(web, painting, mating)
    return tuple([post for post in range(web[0]) if flags[post]])


def crossed_corners(web, painting, mating, number):
    """The numbers of the crossed corners of the strand so numbered, rising."""
    rows = needed_strands(web, painting, mating, number)
    return corners_crossed(crossed_flags(web, painting, mating), rows[number])


def is_loud(web, painting, mating, number):
    """Whether the strand so numbered is loud."""
    rows = needed_strands(web, painting, mating, number)
    return loud_flags(web, painting, mating, rows)[number]


def needed_strands(web, painting, mating, number):
    """All strands, of which one has this number."""
    need_mated_painting(web, painting, mating)
    rows = strand_rows(web, mating)
    need_number(number, len(rows))
    return rows
