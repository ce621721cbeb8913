"""Deeds: turns and flips by matings, and baring; what comes of them."""

from tiewheel.clusters.clusters import cluster_rows
from tiewheel.clusters.crossed import crossed_flags
from tiewheel.clusters.flips import loud_numbers, repainted, strands_in
from tiewheel.matings.matings import mates_all
from tiewheel.matings.strands import strand_rows
from tiewheel.paintings.paintings import bare_ways, need_painting
from tiewheel.webs.errors import NoDeeds
from tiewheel.webs.helper import is_rising_below
from tiewheel.webs.webs import need_web, way_table

TURN = "turn"
FLIP = "flip"
BARE_ALL = ("bare",)


class Work:
    """What a deed by a mating does to a painting.

    flags tell of each post whether it is crossed; rows are the mating's strands; swept tells
    of each strand whether its ways are repainted; turns whether the deed is a turn; loud is the
    number of the first loud cluster that it flips as a flip does, else None.
    """

    def __init__(self, mating, flags, rows, lots, chosen, turns):
        self.mating = mating
        self.flags = flags
        self.rows = rows
        self.turns = turns
        self.swept = [False] * len(rows)
        for number in strands_in(lots, chosen):
            self.swept[number] = True
        loud = [at for at in loud_numbers(lots) if at in chosen]
        self.loud = loud[0] if loud and not turns else None


def work_of(web, beyond, marks, thing):
    """The work of a deed by a mating; None of what is none of the painting that has these marks."""
    if not isinstance(thing, tuple) or len(thing) not in (2, 3) or not mates_all(web, thing[1]):
        return None
    mating = thing[1]
    turns = thing == (TURN, mating)
    if not turns and (len(thing) != 3 or thing[0] != FLIP):
        return None
    flags = crossed_flags(marks, mating)
    rows = strand_rows(beyond, mating)
    lots = cluster_rows(beyond, flags, mating, rows)
    chosen = loud_numbers(lots) if turns else thing[2]
    if not is_rising_below(chosen, len(lots)):
        return None
    return Work(mating, flags, rows, lots, chosen, turns)


def needed_work(web, beyond, marks, deed):
    """The work of a deed, None of ("bare",); refuses what is no deed."""
    if deed == BARE_ALL:
        return None
    work = work_of(web, beyond, marks, deed)
    if work is None:
        raise NoDeeds("no deed of the painting")
    return work


def painted_by(web, painting, work):
    """The painting that comes of a deed whose work is told, None of ("bare",)."""
    if work is None:
        return bare_ways(web, painting)
    numbers = [number for number, sweep in enumerate(work.swept) if sweep]
    return repainted(way_table(web), painting, work.rows, numbers)


def is_deed(web, painting, thing):
    """Whether a thing is a deed of the painting."""
    beyond = need_web(web)
    marks = need_painting(web, painting)
    return thing == BARE_ALL or work_of(web, beyond, marks, thing) is not None


def behind(web, painting, deed):
    """The painting that comes of a deed."""
    beyond = need_web(web)
    marks = need_painting(web, painting)
    return painted_by(web, painting, needed_work(web, beyond, marks, deed))


def keeps(web, painting, deed):
    """Whether a deed keeps lines: all but a flip of a loud cluster do."""
    beyond = need_web(web)
    marks = need_painting(web, painting)
    work = needed_work(web, beyond, marks, deed)
    return work is None or work.loud is None
