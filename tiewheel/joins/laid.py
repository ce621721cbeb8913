"""What becomes of borders, ties and clusters where a web is sewn: borders laid one behind another."""

from tiewheel.clusters.clusters import cluster_rows
from tiewheel.clusters.crossed import crossed_flags
from tiewheel.joins.joins import need_alike, need_pairs, sewn_web
from tiewheel.matings.matings import mate_bits, need_mating
from tiewheel.matings.strands import strand_from, strand_rows, strand_table
from tiewheel.paintings.paintings import need_painting, own_row
from tiewheel.webs.errors import NoEnds
from tiewheel.webs.helper import are_below, is_row_of_two
from tiewheel.webs.webs import HANDS, need_end, need_web

BORDER = "border"
CELL = "cell"


def partners(pairs):
    """For each end of a pair the other one."""
    table = {}
    for one, other in pairs:
        table[one] = other
        table[other] = one
    return table


def row_over(beyond, bits, paired, start):
    """The ends passed from one on: over, to the other end of its pair, over, and so on."""
    row = []
    end = start
    while end is not None and (not row or end != start):
        to = strand_from(beyond, bits, end)[-1]
        row.append(end)
        row.append(to)
        end = paired.get(to, None)
    return tuple(row)


def laid_rows(beyond, mating, pairs):
    """As `laid`, of what surely are pairs."""
    bits = mate_bits(mating)
    paired = partners(pairs)
    ends = [hand for hand, other in enumerate(beyond) if other is None]
    alone = [end for end in ends if end not in paired]
    met = [False] * len(beyond)
    rows = []
    # Ends in no pair go first, so that no border is begun amid its ends.
    for start in alone + ends:
        if not met[start]:
            row = row_over(beyond, bits, paired, start)
            for end in row:
                met[end] = True
            rows.append((CELL if start in paired else BORDER, row))
    return tuple(sorted(rows))


def laid(web, mating, pairs):
    """(word, ends as they are passed) of each strand of the sewn web that has borders, rising."""
    beyond = need_web(web)
    need_mating(web, mating)
    need_pairs(beyond, pairs)
    return laid_rows(beyond, mating, pairs)


def shows_laid(web, mating, pairs, thing):
    """Whether a thing is one of the rows that `laid` tells."""
    rows = laid(web, mating, pairs)
    return is_row_of_two(thing) and are_below(thing[1], HANDS * web[0]) and thing in rows


def needed_ties(web, painting, pairs):
    """(hands across, the painting's own mating), refusing what can't be sewn."""
    beyond = need_web(web)
    marks = need_painting(web, painting)
    need_pairs(beyond, pairs)
    need_alike(marks, pairs)
    return beyond, own_row(marks)


def rings_made(web, painting, pairs):
    """How many rings come by sewing."""
    beyond, own = needed_ties(web, painting, pairs)
    return len([word for word, _ in laid_rows(beyond, own, pairs) if word == CELL])


def tied_through(web, painting, pairs, end):
    """The other end of the sewn web's tie from an end in no pair."""
    beyond, own = needed_ties(web, painting, pairs)
    paired = partners(pairs)
    need_end(beyond, end)
    if end in paired:
        raise NoEnds("the end is in a pair")
    return row_over(beyond, mate_bits(own), paired, end)[-1]


def changed(web, painting, mating, pairs):
    """(number, word, word behind sewing) of each cluster whose word isn't that behind sewing, rising."""
    beyond = need_web(web)
    marks = need_painting(web, painting)
    need_mating(web, mating)
    need_pairs(beyond, pairs)
    need_alike(marks, pairs)
    flags = crossed_flags(marks, mating)
    rows = strand_rows(beyond, mating)
    words = words_sewn(sewn_web(web, pairs), flags, mating)
    told = []
    for number, (word, lot) in enumerate(cluster_rows(beyond, flags, mating, rows)):
        then = words[rows[lot[0]][0]]
        if then != word:
            told.append((number, word, then))
    return tuple(told)


def words_sewn(web, flags, mating):
    """For each hand the word of the cluster that has it; crossed posts are as they were ahead of sewing."""
    beyond = need_web(web)
    rows = strand_rows(beyond, mating)
    by_strand = {}
    for word, lot in cluster_rows(beyond, flags, mating, rows):
        for number in lot:
            by_strand[number] = word
    return [by_strand[number] for number in strand_table(rows)]
