"""The lines of a painting: the strands of its own mating, painted or bare all along."""

from tiewheel.matings.strands import is_round, row_with, strand_rows
from tiewheel.paintings.paintings import is_marked, need_painting, own_row
from tiewheel.webs.errors import NoLine
from tiewheel.webs.helper import are_below, is_row_of_two
from tiewheel.webs.webs import HANDS, need_hand, need_number, need_web, way_table

PAINTED = "painted"
BARE = "bare"
BOTH = "both"


def line_rows(beyond, marks):
    """All lines, (kind, strand) each, rising."""
    rows = strand_rows(beyond, own_row(marks))
    shades = [is_marked(marks, row[0]) for row in rows]
    # Strands stand rising, and bare goes ahead of painted.
    bare = [(BARE, row) for row, shade in zip(rows, shades) if not shade]
    return tuple(bare + [(PAINTED, row) for row, shade in zip(rows, shades) if shade])


def other_kind(kind):
    """Bare of painted, painted of bare."""
    return PAINTED if kind == BARE else BARE


def need_kind(kind):
    """Refuses what is no kind of lines, nor both."""
    if kind not in (PAINTED, BARE, BOTH):
        raise NoLine("no kind of lines")


def is_of_kind(line, kind):
    """Whether a line is of a kind, or any is meant."""
    return kind in (BOTH, line[0])


def number_with(lines, hand):
    """The number of the line that has a hand."""
    return row_with([row for _, row in lines], hand)


def lines_of(web, painting):
    """All lines of a painting, rising."""
    beyond = need_web(web)
    return line_rows(beyond, need_painting(web, painting))


def line_at(web, painting, hand):
    """The number of the line that has a hand."""
    beyond = need_web(web)
    marks = need_painting(web, painting)
    need_hand(beyond, hand)
    return number_with(line_rows(beyond, marks), hand)


def ways_along(web, painting, number):
    """The numbers of the ways along the line so numbered."""
    beyond = need_web(web)
    row = numbered_line(beyond, need_painting(web, painting), number)[1]
    table = way_table(web)
    ways = [table[hand] for hand in row[1::2]]
    if is_round(beyond, row):
        return tuple(ways)
    return (table[row[0]], *ways)


def is_ring(web, painting, number):
    """Whether the line so numbered is a ring."""
    beyond = need_web(web)
    return is_round(beyond, numbered_line(beyond, need_painting(web, painting), number)[1])


def numbered_line(beyond, marks, number):
    """The line so numbered."""
    lines = line_rows(beyond, marks)
    need_number(number, len(lines))
    return lines[number]


def shows_line(web, painting, thing):
    """Whether a thing is one of the lines."""
    lines = lines_of(web, painting)
    return is_row_of_two(thing) and are_below(thing[1], HANDS * web[0]) and thing in lines


def rings_of(web, painting, *, kind=BOTH):
    """The numbers of the rings of a kind, rising."""
    beyond = need_web(web)
    marks = need_painting(web, painting)
    need_kind(kind)
    lines = line_rows(beyond, marks)
    return tuple([
        number for number, line in enumerate(lines) if is_round(beyond, line[1]) and is_of_kind(line, kind)
    ])
