"""Steps by means, a row of matings: turns and flips of one quiet cluster; kin, to which they lead."""

from tiewheel.clusters.clusters import LOUD, cluster_rows
from tiewheel.clusters.crossed import crossed_flags
from tiewheel.clusters.flips import loud_numbers, repainted, strands_in
from tiewheel.heirs.deeds import FLIP, TURN
from tiewheel.matings.matings import mates_all
from tiewheel.matings.strands import strand_rows
from tiewheel.paintings.paintings import marks_of, need_painting
from tiewheel.webs.errors import NoMating, NoNumber, TooWide
from tiewheel.webs.helper import is_rising, is_whole
from tiewheel.webs.webs import need_web, way_table

MOST_MEANS = 4
MOST_KIN = 60
# What `most` may be at the most.
MOST_ASKED = 400


def are_means(web, thing):
    """Whether a thing is a rising row of one to four matings of the web."""
    if not isinstance(thing, tuple) or not 1 <= len(thing) <= MOST_MEANS:
        return False
    return all([mates_all(web, mating) for mating in thing]) and is_rising(thing)


def need_means(web, means):
    """Refuses what are no means."""
    if not are_means(web, means):
        raise NoMating("no rising row of one to four matings of the web")


def need_most(most):
    """Refuses what is no whole number that most may be."""
    if not is_whole(most) or not 1 <= most <= MOST_ASKED:
        raise NoNumber(most)


def strands_by(beyond, means):
    """For each of the means (mating, its strands)."""
    return [(mating, strand_rows(beyond, mating)) for mating in means]


def clusters_by(beyond, marks, mating, rows):
    """The clusters of the painting that has these marks."""
    return cluster_rows(beyond, crossed_flags(marks, mating), mating, rows)


def quiet_numbers(lots):
    """The numbers of the quiet ones of these clusters."""
    return [at for at, (word, _) in enumerate(lots) if word != LOUD]


def steps_of(web, means, painting, *, flips=True):
    """The steps from a painting: deeds, rising."""
    beyond = need_web(web)
    need_means(web, means)
    marks = need_painting(web, painting)
    deeds = []
    # Flips stand ahead of turns, as Python sorts.
    if flips:
        for mating, rows in strands_by(beyond, means):
            deeds.extend([(FLIP, mating, (at,)) for at in quiet_numbers(clusters_by(beyond, marks, mating, rows))])
    return tuple(deeds + [(TURN, mating) for mating in means])


def led_from(web, beyond, table, strands, painting, flips):
    """(deed, painting to which it leads) of each step from a painting; strands are what `strands_by` tells."""
    marks = marks_of(web, painting)
    led = []
    for mating, rows in strands:
        lots = clusters_by(beyond, marks, mating, rows)
        led.append(((TURN, mating), repainted(table, painting, rows, strands_in(lots, loud_numbers(lots)))))
        if flips:
            for at in quiet_numbers(lots):
                led.append(((FLIP, mating, (at,)), repainted(table, painting, rows, lots[at][1])))
    return led


def walked(web, beyond, means, painting, flips, most):
    """(shells, ahead): all kin by how few steps lead to them, and for each the last of these steps.

    Shells are lists of paintings; ahead has for each painting (deed, the painting from which it
    leads there), None for the first one.
    """
    table = way_table(web)
    strands = strands_by(beyond, means)
    ahead = {painting: None}
    shells = [[painting]]
    while shells[-1]:
        shell = []
        for here in shells[-1]:
            for deed, other in led_from(web, beyond, table, strands, here, flips):
                if other not in ahead:
                    if len(ahead) == most:
                        raise TooWide(most)
                    ahead[other] = (deed, here)
                    shell.append(other)
        shells.append(shell)
    return shells[:-1], ahead


def kin_of(web, means, painting, *, flips=True, most=MOST_KIN):
    """All paintings to which rows of steps lead, rising."""
    beyond = need_web(web)
    need_means(web, means)
    need_painting(web, painting)
    need_most(most)
    _, ahead = walked(web, beyond, means, painting, flips, most)
    return tuple(sorted(ahead))
