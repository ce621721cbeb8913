"""Rows of deeds, each done by the clusters of the painting that it meets; heirs and ends along them."""

from tiewheel.heirs.deeds import BARE_ALL, painted_by, work_of
from tiewheel.heirs.heirs import heir_rows
from tiewheel.lines.lines import line_rows
from tiewheel.matings.strands import is_round
from tiewheel.paintings.paintings import marks_of, need_painting
from tiewheel.webs.errors import Loud, NoDeeds
from tiewheel.webs.webs import end_hands, need_web

MOST_ROW = 60


def walk_of(web, beyond, painting, thing):
    """(painting, work) of each deed of a row, by what it meets, and (painting, None) behind all.

    Work is None of ("bare",), too. None of what is no row of deeds.
    """
    if not isinstance(thing, tuple) or len(thing) > MOST_ROW:
        return None
    walk = []
    here = painting
    for deed in thing:
        work = None
        if deed != BARE_ALL:
            work = work_of(web, beyond, marks_of(web, here), deed)
            if work is None:
                return None
        walk.append((here, work))
        here = painted_by(web, here, work)
    walk.append((here, None))
    return walk


def needed_walk(web, painting, deeds):
    """(hands across, what `walk_of` tells), refusing what is no web, no painting, no row of deeds."""
    beyond = need_web(web)
    need_painting(web, painting)
    walk = walk_of(web, beyond, painting, deeds)
    if walk is None:
        raise NoDeeds("no row of deeds of the painting")
    return beyond, walk


def are_deeds(web, painting, thing):
    """Whether a thing is a row of deeds, each of the painting that it meets."""
    beyond = need_web(web)
    need_painting(web, painting)
    return walk_of(web, beyond, painting, thing) is not None


def done(web, painting, deeds):
    """The painting behind a row of deeds."""
    _, walk = needed_walk(web, painting, deeds)
    return walk[-1][0]


def first_loud(walk):
    """The number of the loud cluster that bars the first deed that doesn't keep; None where all keep."""
    loud = [work.loud for _, work in walk if work is not None and work.loud is not None]
    return loud[0] if loud else None


def all_keep(web, painting, deeds):
    """Whether each deed of a row keeps lines."""
    _, walk = needed_walk(web, painting, deeds)
    return first_loud(walk) is None


def standing_rows(beyond, marks):
    """For each line itself, its ends as they stand: heirs behind no deed."""
    return tuple([
        (number, () if is_round(beyond, row) else (row[0], row[-1]))
        for number, (_, row) in enumerate(line_rows(beyond, marks))
    ])


def gone_by(beyond, marks, rows):
    """A dict of where each end has gone, by what heirs tell of the lines of the painting that has these marks."""
    went = {}
    for (_, row), (_, ends) in zip(line_rows(beyond, marks), rows):
        if ends:
            went[row[0]] = ends[0]
            went[row[-1]] = ends[1]
    return went


def heirs_of_heirs(rows, more, went):
    """What heirs tell behind two, rows ahead and more behind; went is `gone_by` of more."""
    return tuple([(more[number][0], tuple([went[end] for end in ends])) for number, ends in rows])


def rows_along(web, beyond, walk):
    """For each line of the first painting (its heir's number, where its ends have gone) behind all deeds."""
    loud = first_loud(walk)
    if loud is not None:
        raise Loud(loud)
    rows = standing_rows(beyond, marks_of(web, walk[0][0]))
    for here, work in walk[:-1]:
        marks = marks_of(web, here)
        more = heir_rows(web, beyond, marks, here, work)
        rows = heirs_of_heirs(rows, more, gone_by(beyond, marks, more))
    return rows


def heirs_along(web, painting, deeds):
    """For each line, in order, (its heir's number behind the row of deeds, where its ends have gone)."""
    beyond, walk = needed_walk(web, painting, deeds)
    return rows_along(web, beyond, walk)


def gone_along(web, painting, deeds):
    """For each end of the web, rising, (end, where it has gone)."""
    beyond, walk = needed_walk(web, painting, deeds)
    went = gone_by(beyond, marks_of(web, painting), rows_along(web, beyond, walk))
    return tuple([(end, went[end]) for end in end_hands(web)])
