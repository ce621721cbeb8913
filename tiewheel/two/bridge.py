"""Flips that lead from one painting to another, at once or one by one."""

from tiewheel.clusters.clusters import cluster_rows
from tiewheel.clusters.crossed import crossed_flags
from tiewheel.clusters.flips import flips_between, repainted, strands_in
from tiewheel.heirs.deeds import FLIP, painted_by, work_of
from tiewheel.matings.matings import mates_all, third_of
from tiewheel.matings.strands import strand_rows
from tiewheel.paintings.paintings import OWN, need_painting, own_row
from tiewheel.two.two import ALL_UNLIKE, does_fit, unlike_marks
from tiewheel.webs.errors import NoMating
from tiewheel.webs.webs import need_web, way_table


def bridge(web, painting, other):
    """The deed ("flip", mating, flips) that makes the other, by the third of both own matings."""
    beyond = need_web(web)
    marks = need_painting(web, painting)
    mating = third_of(own_row(marks), own_row(need_painting(web, other)))
    rows, lots = strands_and_clusters(beyond, marks, mating)
    return (FLIP, mating, flips_between(web, painting, other, rows, lots))


def strands_and_clusters(beyond, marks, mating):
    """(strands, clusters) of the painting that has these marks."""
    rows = strand_rows(beyond, mating)
    return rows, cluster_rows(beyond, crossed_flags(marks, mating), mating, rows)


def least_fitting(marks, unlike):
    """The least mating that fits, by a painting's marks and the unlike ones."""
    row = []
    for mark, bits in zip(marks, unlike):
        if bits == 0:
            row.append(0)
        elif bits == ALL_UNLIKE:
            row.append(1 if OWN[mark] == 0 else 0)
        else:
            row.append(OWN[bits])
    return tuple(row)


def fitting(web, marks, unlike, mating):
    """A mating that fits, the least one for None; refuses what is none."""
    if mating is None:
        return least_fitting(marks, unlike)
    if not mates_all(web, mating) or not does_fit(marks, unlike, mating):
        raise NoMating("no mating of the web that fits")
    return mating


def least_fit(web, painting, other):
    """The least mating that fits."""
    need_web(web)
    marks = need_painting(web, painting)
    return least_fitting(marks, unlike_marks(marks, need_painting(web, other)))


def one_by_one(web, painting, other, *, mating=None):
    """Flips of one cluster each that lead to the other painting, their numbers rising."""
    beyond = need_web(web)
    marks = need_painting(web, painting)
    fit = fitting(web, marks, unlike_marks(marks, need_painting(web, other)), mating)
    rows, lots = strands_and_clusters(beyond, marks, fit)
    return tuple([(FLIP, fit, (number,)) for number in flips_between(web, painting, other, rows, lots)])


def between(web, painting, other, *, mating=None):
    """The paintings from the one to the other, both too, that `one_by_one` makes."""
    beyond = need_web(web)
    marks = need_painting(web, painting)
    fit = fitting(web, marks, unlike_marks(marks, need_painting(web, other)), mating)
    rows, lots = strands_and_clusters(beyond, marks, fit)
    table = way_table(web)
    told = [painting]
    # All of them have the same crossed posts, so the same clusters.
    for number in flips_between(web, painting, other, rows, lots):
        told.append(repainted(table, told[-1], rows, strands_in(lots, (number,))))
    return tuple(told)


def shows_bridge(web, painting, other, thing):
    """Whether a thing is a flip that makes the other painting."""
    beyond = need_web(web)
    marks = need_painting(web, painting)
    need_painting(web, other)
    work = work_of(web, beyond, marks, thing)
    return work is not None and not work.turns and painted_by(web, painting, work) == other
