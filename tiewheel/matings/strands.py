"""Strands of a mating: cells that come round again, borders from an end to an end."""

from tiewheel.matings.matings import mate_bits, need_mating
from tiewheel.webs.helper import are_below
from tiewheel.webs.webs import HANDS, need_end, need_hand, need_number, need_web


def strand_from(beyond, bits, first):
    """The row of hands from a hand to its mate and on, to an end or round.

    Beyond has the hands across, bits what `mate_bits` tells.
    """
    row = []
    hand = first
    while hand is not None:
        other = hand ^ bits[hand // HANDS]
        row.append(hand)
        row.append(other)
        hand = beyond[other]
        if hand == first:
            break
    return tuple(row)


def strand_rows(beyond, mating):
    """All strands, rising."""
    bits = mate_bits(mating)
    met = [False] * len(beyond)
    rows = []
    ends = [hand for hand, other in enumerate(beyond) if other is None]
    # Ends go first, so that no border is begun amid its hands.
    for first in ends + list(range(len(beyond))):
        if not met[first]:
            row = strand_from(beyond, bits, first)
            for hand in row:
                met[hand] = True
            rows.append(row)
    return tuple(sorted(rows))


def strand_table(rows):
    """For each hand the number of the row that has it."""
    table = [0] * sum([len(row) for row in rows])
    for number, row in enumerate(rows):
        for hand in row:
            table[hand] = number
    return table


def row_with(rows, hand):
    """The number of the row that has a hand."""
    return [hand in row for row in rows].index(True)


def is_round(beyond, row):
    """Whether a strand is a cell; beyond has the hands across."""
    return beyond[row[0]] is not None


def post_pairs(table, mating, posts):
    """For each of these posts the numbers of the strands that its two corners lie in.

    The table has the strands' numbers by their hands.
    """
    # The second hand is the mate of the first one by the mating 0 alone.
    return [(table[HANDS * post], table[HANDS * post + (1 if mating[post] else 2)]) for post in posts]


def strands_of(web, mating):
    """All strands of a mating, rising."""
    beyond = need_web(web)
    need_mating(web, mating)
    return strand_rows(beyond, mating)


def is_cell(web, mating, number):
    """Whether the strand so numbered is a cell."""
    beyond = need_web(web)
    need_mating(web, mating)
    rows = strand_rows(beyond, mating)
    need_number(number, len(rows))
    return is_round(beyond, rows[number])


def strand_at(web, mating, hand):
    """The number of the strand that has a hand."""
    beyond = need_web(web)
    need_mating(web, mating)
    need_hand(beyond, hand)
    return row_with(strand_rows(beyond, mating), hand)


def over(web, mating, hand):
    """The other end of an end's border."""
    beyond = need_web(web)
    need_mating(web, mating)
    need_end(beyond, hand)
    return strand_from(beyond, mate_bits(mating), hand)[-1]


def shows_strand(web, mating, thing):
    """Whether a thing is one of the strands."""
    rows = strands_of(web, mating)
    return are_below(thing, HANDS * web[0]) and thing in rows
