"""Heirs: what each line, each end of it, has become behind a deed that keeps lines."""

from tiewheel.heirs.deeds import needed_work, painted_by
from tiewheel.heirs.tracks import line_key, numbers_by_key, tracked_lines
from tiewheel.lines.lines import line_rows, other_kind
from tiewheel.matings.strands import is_round, strand_table
from tiewheel.paintings.paintings import marks_of, need_painting
from tiewheel.webs.errors import Loud
from tiewheel.webs.webs import need_web


def needed_keeping(web, beyond, marks, deed):
    """The work of a deed that keeps lines, None of ("bare",); refuses what is none."""
    work = needed_work(web, beyond, marks, deed)
    if work is not None and work.loud is not None:
        raise Loud(work.loud)
    return work


def gone_to(work, table, hand):
    """Where an end goes, of a tie whose track isn't (); the table has the strands' numbers."""
    number = table[hand]
    # By flips just the ends of repainted borders go over, by a turn just those of the others.
    if work.swept[number] == work.turns:
        return hand
    row = work.rows[number]
    return row[0] if row[-1] == hand else row[-1]


def ends_behind(work, table, tracked):
    """Where the first and the last end of a line have gone, () of a ring."""
    _, ring, track, row = tracked
    if ring:
        return ()
    if not track:
        return (row[0], row[-1])
    return (gone_to(work, table, row[0]), gone_to(work, table, row[-1]))


def kind_behind(work, table, tracked):
    """The kind of a line's heir."""
    kind, _, track, row = tracked
    changes = work.turns if track else work.swept[table[row[0]]]
    return other_kind(kind) if changes else kind


def heir_rows(web, beyond, marks, painting, work):
    """For each line (number of its heir, where its ends have gone)."""
    if work is None:
        return bare_rows(beyond, line_rows(beyond, marks))
    lines = tracked_lines(beyond, marks, work.flags, work.mating)
    marks_then = marks_of(web, painted_by(web, painting, work))
    numbers = numbers_by_key(tracked_lines(beyond, marks_then, work.flags, work.mating))
    table = strand_table(work.rows)
    return tuple([
        (numbers[line_key(kind_behind(work, table, line), line)], ends_behind(work, table, line)) for line in lines
    ])


def bare_rows(beyond, lines):
    """As `heir_rows`, of ("bare",): each line's heir is that of the same strand, and all ends stand."""
    then = sorted([(other_kind(kind), row) for kind, row in lines])
    numbers = {line: number for number, line in enumerate(then)}
    return tuple([
        (numbers[(other_kind(kind), row)], () if is_round(beyond, row) else (row[0], row[-1])) for kind, row in lines
    ])


def gone_pairs(beyond, marks, work):
    """For each end, rising, (end, where it has gone)."""
    if work is None:
        return tuple([(hand, hand) for hand, other in enumerate(beyond) if other is None])
    table = strand_table(work.rows)
    pairs = []
    for line in tracked_lines(beyond, marks, work.flags, work.mating):
        row = line[-1]
        for end, to in zip((row[0], row[-1]), ends_behind(work, table, line)):
            pairs.append((end, to))
    return tuple(sorted(pairs))


def heirs(web, painting, deed):
    """For each line, in order, (number of its heir among the lines behind, where its ends have gone)."""
    beyond = need_web(web)
    marks = need_painting(web, painting)
    return heir_rows(web, beyond, marks, painting, needed_keeping(web, beyond, marks, deed))


def gone(web, painting, deed):
    """For each end of the web, rising, (end, where it has gone)."""
    beyond = need_web(web)
    marks = need_painting(web, painting)
    return gone_pairs(beyond, marks, needed_keeping(web, beyond, marks, deed))
