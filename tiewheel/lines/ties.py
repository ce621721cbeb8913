"""Ties: the lines of a painting that go from an end to an end."""

from tiewheel.lines.lines import BOTH, is_of_kind, line_rows, line_table, need_kind
from tiewheel.matings.strands import is_round, strand_from
from tiewheel.paintings.paintings import need_painting, own_row
from tiewheel.webs.webs import across_table, need_end, need_web


def tied(web, painting, hand):
    """The end that an end is tied with."""
    need_web(web)
    need_painting(web, painting)
    need_end(web, hand)
    return strand_from(across_table(web), own_row(web, painting), hand)[-1]


def ties_of(web, painting, *, kind=BOTH):
    """The pairs of tied ends of a kind, the lesser ahead, rising."""
    need_web(web)
    need_painting(web, painting)
    need_kind(kind)
    beyond = across_table(web)
    lines = [line for line in line_rows(web, painting) if is_of_kind(line, kind)]
    return tuple(sorted([(row[0], row[-1]) for _, row in lines if not is_round(beyond, row)]))


def tie_at(web, painting, hand):
    """The number of the line that an end's tie is."""
    need_web(web)
    need_painting(web, painting)
    need_end(web, hand)
    return line_table(line_rows(web, painting))[hand]
