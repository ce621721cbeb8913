"""Whether another painting keeps the lines of a first one by a mating."""

from tiewheel.clusters.crossed import crossed_flags
from tiewheel.heirs.tracks import line_key, numbers_by_key, tracked_lines, walked_track
from tiewheel.lines.lines import other_kind
from tiewheel.matings.matings import mate_bits, need_mating
from tiewheel.paintings.paintings import need_painting
from tiewheel.webs.helper import is_same
from tiewheel.webs.webs import need_web


def kept(web, painting, other, mating, *, exchanged=False):
    """("kept", rows as heirs are), or ("post", crossed in just one), or ("line", the first without an heir)."""
    beyond = need_web(web)
    marks = need_painting(web, painting)
    marks_then = need_painting(web, other)
    need_mating(web, mating)
    flags = crossed_flags(marks, mating)
    for post, flag in enumerate(crossed_flags(marks_then, mating)):
        if flag != flags[post]:
            return ("post", post)
    then = tracked_lines(beyond, marks_then, flags, mating)
    numbers = numbers_by_key(then)
    rows = []
    for number, line in enumerate(tracked_lines(beyond, marks, flags, mating)):
        heir = heir_number(numbers, line, exchanged)
        if heir is None:
            return ("line", number)
        rows.append((heir, ends_of_heir(flags, mating, line, then[heir])))
    return ("kept", tuple(rows))


def heir_number(numbers, line, exchanged):
    """The number of a line's heir, None where it has none."""
    same = numbers.get(line_key(line[0], line), None)
    other = numbers.get(line_key(other_kind(line[0]), line), None)
    if line[2]:
        return other if exchanged else same
    return other if same is None else same


def ends_of_heir(flags, mating, line, heir):
    """The ends of a tie's heir from which the same row is told as from the tie's own; of a ring ()."""
    _, ring, track, row = line
    if ring:
        return ()
    first, last = heir[3][0], heir[3][-1]
    bits = mate_bits(mating)
    if track and walked_track(flags, bits, row) != walked_track(flags, bits, heir[3]):
        return (last, first)
    return (first, last)


def shows_kept(web, painting, other, mating, thing, *, exchanged=False):
    """Whether a thing is what `kept` tells."""
    return is_same(thing, kept(web, painting, other, mating, exchanged=exchanged))
