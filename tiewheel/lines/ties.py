"""Ties: the lines of a painting that go from an end to an end."""

from tiewheel.lines.lines import BOTH, is_of_kind, line_rows, need_kind, number_with
from tiewheel.matings.matings import mate_bits
from tiewheel.matings.strands import is_round, strand_from
from tiewheel.paintings.paintings import need_painting, own_row
from tiewheel.webs.webs import need_end, need_web


def tied(web, painting, hand):
    """The end that an end is tied with."""
    beyond = need_web(web)
    marks = need_painting(web, painting)
    need_end(beyond, hand)
    return strand_from(beyond, mate_bits(own_row(marks)), hand)[-1]


def ties_of(web, painting, *, kind=BOTH):
    """The pairs of tied ends of a kind, the lesser ahead, rising."""
    beyond = need_web(web)
    marks = need_painting(web, painting)
    need_kind(kind)
    lines = [line for line in line_rows(beyond, marks) if is_of_kind(line, kind)]
    return tuple(sorted([(row[0], row[-1]) for _, row in lines if not is_round(beyond, row)]))


def tie_at(web, painting, hand):
    """The number of the line that an end's tie is."""
    beyond = need_web(web)
    marks = need_painting(web, painting)
    need_end(beyond, hand)
    return number_with(line_rows(beyond, marks), hand)
