"""Paintings near another one: those to which flips of its quiet clusters lead.

Of two paintings that one is less which has the least way painted that is unlike. So near ones stand
as binary numbers do: with a figure for each quiet cluster, by their least ways, 0 where this
way is painted.
"""

from tiewheel.clusters.clusters import LOUD
from tiewheel.clusters.flips import flips_between, needed_clusters, repainted, strands_in
from tiewheel.paintings.paintings import painted_marks
from tiewheel.webs.errors import NoNumber, NoPainting, TooWide
from tiewheel.webs.helper import is_below
from tiewheel.webs.webs import way_table

MOST_NEAR = 400


def quiet_by_ways(table, rows, lots):
    """(least way, number) of each quiet cluster, rising; the table has the ways' numbers by hands."""
    return sorted([
        (min([table[hand] for strand in lot for hand in rows[strand]]), at)
        for at, (word, lot) in enumerate(lots)
        if word != LOUD
    ])


def needed_quiet(web, painting, mating):
    """(strands, clusters, table of ways, what `quiet_by_ways` tells), refusing what is not as told."""
    rows, lots = needed_clusters(web, painting, mating)
    table = way_table(web)
    return rows, lots, table, quiet_by_ways(table, rows, lots)


def numbered_near(painting, rows, lots, table, quiet, number):
    """The near painting with a number that one has."""
    flips = []
    for place, (way, at) in enumerate(quiet[::-1]):
        is_bare = (number >> place) & 1 == 1
        if is_bare == (way in painting):
            flips.append(at)
    return repainted(table, painting, rows, strands_in(lots, flips))


def many_near(web, painting, mating):
    """How many near paintings there are."""
    return 1 << len(needed_quiet(web, painting, mating)[-1])


def near_of(web, painting, mating):
    """All near paintings, rising."""
    rows, lots, table, quiet = needed_quiet(web, painting, mating)
    many = 1 << len(quiet)
    if many > MOST_NEAR:
        raise TooWide(MOST_NEAR)
    return tuple([numbered_near(painting, rows, lots, table, quiet, number) for number in range(many)])


def near_at(web, painting, mating, number):
    """The near painting with this number."""
    rows, lots, table, quiet = needed_quiet(web, painting, mating)
    if not is_below(number, 1 << len(quiet)):
        raise NoNumber(number)
    return numbered_near(painting, rows, lots, table, quiet, number)


def near_number(web, painting, mating, other):
    """The number of a near painting."""
    rows, lots, _, quiet = needed_quiet(web, painting, mating)
    if painted_marks(web, other) is None:
        raise NoPainting("no painting of the web")
    flips = flips_between(web, painting, other, rows, lots)
    if flips is None or any([lots[at][0] == LOUD for at in flips]):
        raise NoPainting("no painting that is near")
    number = 0
    for way, _ in quiet:
        number = 2 * number + (0 if way in other else 1)
    return number
