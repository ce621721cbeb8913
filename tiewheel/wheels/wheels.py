"""Wheels: webs with two matings of short strands; rims, along which ends go by turns."""

from tiewheel.matings.matings import mate_bits, need_mating
from tiewheel.matings.strands import is_round, strand_from, strand_rows
from tiewheel.paintings.fronts import any_painting, plan_of
from tiewheel.paintings.paintings import is_marked, need_painting
from tiewheel.webs.errors import NoNumber
from tiewheel.webs.helper import is_rising_below, is_whole
from tiewheel.webs.webs import need_end, need_web

MOST_CELL = 4
MOST_BORDER = 3
MOST_FAR = 10 ** 30


def need_two(web, first, second):
    """The hands across, refusing what is no web, no matings of it."""
    beyond = need_web(web)
    need_mating(web, first)
    need_mating(web, second)
    return beyond


def need_turns(turns, begin):
    """Refuses what is no number of turns, and what they can't begin by."""
    if not is_whole(turns) or not 0 <= turns <= MOST_FAR:
        raise NoNumber(turns)
    if not is_whole(begin) or begin not in (0, 1):
        raise NoNumber(begin)


def is_long(beyond, row):
    """Whether a strand has more ways than those of a wheel."""
    corners = len(row) // 2
    return corners > MOST_CELL if is_round(beyond, row) else corners + 1 > MOST_BORDER


def bar_among(beyond, first, second):
    """As `barred_by`, of what surely are matings."""
    for which, mating in enumerate((first, second)):
        for number, row in enumerate(strand_rows(beyond, mating)):
            if is_long(beyond, row):
                return (which, number)
    return None


def barred_by(web, first, second):
    """None of a wheel, else (which mating, the number of its first strand that is too long)."""
    return bar_among(need_two(web, first, second), first, second)


def is_wheel(web, first, second):
    """Whether a web with two matings is a wheel."""
    return barred_by(web, first, second) is None


def rim_rows(beyond, first, second):
    """All rims, rising."""
    both = (mate_bits(first), mate_bits(second))
    met = [False] * len(beyond)
    rows = []
    for start in range(len(beyond)):
        if beyond[start] is None and not met[start]:
            row = rim_from(beyond, both, start)
            for end in row:
                met[end] = True
            rows.append(row)
    return tuple(rows)


def rim_from(beyond, both, start):
    """The rim of an end from it on, over by the one mating and by the other; both are as `mate_bits` tells."""
    row = []
    end = start
    while not row or end != start:
        # From an even place one goes over by the first mating.
        bits = both[len(row) & 1]
        row.append(end)
        end = strand_from(beyond, bits, end)[-1]
    return tuple(row)


def place_in(rims, hand):
    """(number of the rim, place in it) of an end."""
    return [(number, row.index(hand)) for number, row in enumerate(rims) if hand in row][0]


def moved(place, turns, begin):
    """The place, on and on without coming round, to which an end goes by so many turns."""
    return place - turns if (place + begin) & 1 else place + turns


def ends_moved(rims, turns, begin):
    """For each end where it goes by so many turns."""
    went = {}
    for row in rims:
        for place, end in enumerate(row):
            went[end] = row[moved(place, turns, begin) % len(row)]
    return went


def rims_of(web, first, second):
    """All rims, rising."""
    return rim_rows(need_two(web, first, second), first, second)


def place_of(web, first, second, hand):
    """(number of the rim, place in it) of an end."""
    beyond = need_two(web, first, second)
    need_end(beyond, hand)
    return place_in(rim_rows(beyond, first, second), hand)


def end_behind(web, first, second, hand, turns, *, begin=0):
    """The end to which an end goes by so many turns."""
    beyond = need_two(web, first, second)
    need_end(beyond, hand)
    need_turns(turns, begin)
    rims = rim_rows(beyond, first, second)
    number, place = place_in(rims, hand)
    return rims[number][moved(place, turns, begin) % len(rims[number])]


def are_by_turns(rims, marks):
    """Whether ends are painted and bare by turns along each rim."""
    return all([
        is_marked(marks, one) != is_marked(marks, other)
        for row in rims
        for one, other in zip(row, row[1:])
    ])


def is_by_turns(web, first, second, painting):
    """Whether by both matings each border has one painted end and one bare end."""
    beyond = need_two(web, first, second)
    marks = need_painting(web, painting)
    return are_by_turns(rim_rows(beyond, first, second), marks)


def by_turns(web, first, second, *, painted=()):
    """A painting with ends by turns and just these rims' least ends painted; None where there is none."""
    rims = rim_rows(need_two(web, first, second), first, second)
    if not is_rising_below(painted, len(rims)):
        raise NoNumber(painted)
    ends = [end for number, row in enumerate(rims) for end in (row[::2] if number in painted else row[1::2])]
    return any_painting(plan_of(web, tuple(sorted(ends))))
