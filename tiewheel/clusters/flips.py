"""Flips of clusters: all ways of all their strands repainted, painted for bare."""

from tiewheel.clusters.clusters import LOUD, cluster_rows
from tiewheel.clusters.crossed import loud_flags, needed_strands
from tiewheel.paintings.paintings import need_painting
from tiewheel.webs.errors import NoFlips
from tiewheel.webs.helper import is_rising_below
from tiewheel.webs.webs import way_table


def needed_clusters(web, painting, mating):
    """(strands, clusters), refusing what is no web, no painting, no mating."""
    beyond, flags, rows = needed_strands(web, painting, mating)
    return rows, cluster_rows(beyond, flags, mating, rows)


def loud_numbers(lots):
    """The numbers of the loud ones of these clusters."""
    return tuple([at for at, (word, _) in enumerate(lots) if word == LOUD])


def strands_in(lots, numbers):
    """The numbers of all strands of the clusters so numbered."""
    return [number for at in numbers for number in lots[at][1]]


def repainted(table, painting, rows, numbers):
    """The painting that comes where the strands so numbered are painted for bare; the table is `way_table`'s."""
    ways = [table[hand] for number in numbers for hand in rows[number]]
    return tuple(sorted(set(painting) ^ set(ways)))


def unlike_flags(web, painting, other):
    """For each way whether it is painted in just one of both paintings."""
    flags = [False] * len(web[1])
    for row in (painting, other):
        for number in row:
            flags[number] = not flags[number]
    return flags


def is_flips(web, painting, mating, thing):
    """Whether a thing is a rising row of numbers of clusters."""
    _, lots = needed_clusters(web, painting, mating)
    return is_rising_below(thing, len(lots))


def flipped(web, painting, mating, flips):
    """The painting that comes where these clusters are flipped."""
    rows, lots = needed_clusters(web, painting, mating)
    if not is_rising_below(flips, len(lots)):
        raise NoFlips("no flips of the painting's clusters")
    return repainted(way_table(web), painting, rows, strands_in(lots, flips))


def flips_to(web, painting, mating, other):
    """The flips that lead to the other painting; None where none do."""
    rows, lots = needed_clusters(web, painting, mating)
    need_painting(web, other)
    return flips_between(web, painting, other, rows, lots)


def flips_between(web, painting, other, rows, lots):
    """As `flips_to`, of what surely are paintings, strands, clusters."""
    table = way_table(web)
    unlike = unlike_flags(web, painting, other)
    flips = []
    for at, (_, lot) in enumerate(lots):
        found = [unlike[table[hand]] for number in lot for hand in rows[number]]
        if all(found):
            flips.append(at)
        elif any(found):
            return None
    return tuple(flips)


def turned(web, painting, mating):
    """The painting that comes where all loud clusters are flipped."""
    rows, lots = needed_clusters(web, painting, mating)
    return repainted(way_table(web), painting, rows, strands_in(lots, loud_numbers(lots)))


def is_still(web, painting, mating):
    """Whether no cluster is loud."""
    beyond, flags, rows = needed_strands(web, painting, mating)
    return not any(loud_flags(beyond, flags, rows))
