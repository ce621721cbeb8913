"""Tracks: the corners of a mating by which a line comes to crossed posts and goes from them."""

from tiewheel.clusters.crossed import crossed_flags
from tiewheel.lines.lines import line_rows
from tiewheel.matings.matings import mate_bits, need_mating
from tiewheel.matings.strands import is_round
from tiewheel.paintings.paintings import need_painting
from tiewheel.webs.webs import HANDS, need_number, need_web


def walked_track(flags, bits, row):
    """A line's track as its strand is told, from its first hand on.

    Flags tell of each post whether it is crossed, bits what `mate_bits` tells of the mating.
    """
    track = []
    for one, other in zip(row[::2], row[1::2]):
        post = one // HANDS
        if flags[post]:
            for hand in (one, other):
                mated = hand ^ bits[post]
                track.append(hand if hand < mated else mated)
    return tuple(track)


def told_track(walked, ring):
    """Of all rows that a line's track may be the least; ring tells whether the line is one."""
    back = walked[::-1]
    if not ring:
        return min(walked, back)
    if not walked:
        return walked
    # No corner comes twice, so the least one is come by in just one of both directions.
    least = min(walked)
    row = walked if walked.index(least) & 1 == 0 else back
    at = row.index(least)
    return row[at:] + row[:at]


def tracked_lines(beyond, marks, flags, mating):
    """For each line, in order, (kind, whether it is a ring, track, strand)."""
    bits = mate_bits(mating)
    tracked = []
    for kind, row in line_rows(beyond, marks):
        ring = is_round(beyond, row)
        tracked.append((kind, ring, told_track(walked_track(flags, bits, row), ring), row))
    return tracked


def line_key(kind, tracked):
    """What a line of that kind is known by: track, or else strand, and whether it is a ring."""
    _, ring, track, row = tracked
    return (kind, ring, track, () if track else row)


def numbers_by_key(tracked):
    """The numbers of lines by what they are known by."""
    return {line_key(line[0], line): number for number, line in enumerate(tracked)}


def track_of(web, painting, mating, number):
    """The track of the line so numbered."""
    beyond = need_web(web)
    marks = need_painting(web, painting)
    need_mating(web, mating)
    lines = line_rows(beyond, marks)
    need_number(number, len(lines))
    row = lines[number][1]
    walked = walked_track(crossed_flags(marks, mating), mate_bits(mating), row)
    return told_track(walked, is_round(beyond, row))
