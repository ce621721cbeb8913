"""The lines of a painting: the strands of its own mating, painted or bare all along."""

from tiewheel.matings.strands import is_round, strand_rows, strand_table
from tiewheel.paintings.paintings import need_painting, own_row, painted_flags
from tiewheel.webs.errors import NoLine
from tiewheel.webs.helper import are_below, is_row_of_two
from tiewheel.webs.webs import HANDS, across_table, need_hand, need_number, need_web, way_table

PAINTED = "painted"
BARE = "bare"
BOTH = "both"


def line_rows(web, painting):
    """All lines, (kind, strand) each, rising."""
    flags = painted_flags(web, painting)
    rows = strand_rows(web, own_row(web, painting))
    return tuple(sorted([(PAINTED if flags[row[0]] else BARE, row) for row in rows]))


def line_table(lines):
    """For each hand the number of the line that has it."""
    return strand_table([row for _, row in lines])


def need_kind(kind):
    """Refuses what is no kind of lines, nor both."""
    if kind not in (PAINTED, BARE, BOTH):
        raise NoLine("no kind of lines")


def is_of_kind(line, kind):
    """Whether a line is of a kind, or any is meant."""
    return kind in (BOTH, line[0])


def lines_of(web, painting):
    """All lines of a painting, rising."""
    need_web(web)
    need_painting(web, painting)
    return line_rows(web, painting)


def line_at(web, painting, hand):
    """The number of the line that has a hand."""
    lines = lines_of(web, painting)
    need_hand(web, hand)
    return line_table(lines)[hand]


def ways_along(web, painting, number):
    """The numbers of the ways along the line so numbered."""
    row = numbered_line(web, painting, number)[1]
    table = way_table(web)
    ways = [table[hand] for hand in row[1::2]]
    if is_round(across_table(web), row):
        return tuple(ways)
    return (table[row[0]], *ways)


def is_ring(web, painting, number):
    """Whether the line so numbered is a ring."""
    row = numbered_line(web, painting, number)[1]
    return is_round(across_table(web), row)


def numbered_line(web, painting, number):
    """The line so numbered."""
    lines = lines_of(web, painting)
    need_number(number, len(lines))
    return lines[number]


def shows_line(web, painting, thing):
    """Whether a thing is one of the lines."""
    lines = lines_of(web, painting)
    return is_row_of_two(thing) and are_below(thing[1], HANDS * web[0]) and thing in lines


def rings_of(web, painting, *, kind=BOTH):
    """The numbers of the rings of a kind, rising."""
    lines = lines_of(web, painting)
    need_kind(kind)
    beyond = across_table(web)
    return tuple([
        number for number, line in enumerate(lines) if is_round(beyond, line[1]) and is_of_kind(line, kind)
    ])
