"""Strands of a mating: cells that come round again, borders from an end to an end."""

from tiewheel.matings.matings import mate_of, need_mating
from tiewheel.webs.helper import are_below
from tiewheel.webs.webs import HANDS, across_table, end_hands, need_end, need_hand, need_number, need_web


def strand_from(beyond, mating, first):
    """The row of hands from a hand to its mate and on, to an end or round; beyond has the hands across."""
    row = [first, mate_of(mating, first)]
    hand = beyond[row[-1]]
    while hand is not None and hand != first:
        row.append(hand)
        row.append(mate_of(mating, hand))
        hand = beyond[row[-1]]
    return tuple(row)


def strand_rows(web, mating):
    """All strands, rising."""
    beyond = across_table(web)
    met = [False] * len(beyond)
    rows = []
    # Ends go first, so that no border is begun amid its hands.
    for first in list(end_hands(web)) + list(range(len(beyond))):
        if not met[first]:
            row = strand_from(beyond, mating, first)
            for hand in row:
                met[hand] = True
            rows.append(row)
    return tuple(sorted(rows))


def strand_table(rows):
    """For each hand the number of the row that has it."""
    table = [None] * sum([len(row) for row in rows])
    for number, row in enumerate(rows):
        for hand in row:
            table[hand] = number
    return table


def is_round(beyond, row):
    """Whether a strand is a cell; beyond has the hands across."""
    return beyond[row[0]] is not None


def post_pairs(rows, mating, posts):
    """For each of these posts the numbers of the strands that its two corners lie in."""
    table = strand_table(rows)
    pairs = []
    for post in posts:
        first = HANDS * post
        # The second hand is the mate of the first one by the mating 0 alone.
        second = first + 2 if mating[post] == 0 else first + 1
        pairs.append((table[first], table[second]))
    return pairs


def strands_of(web, mating):
    """All strands of a mating, rising."""
    need_web(web)
    need_mating(web, mating)
    return strand_rows(web, mating)


def is_cell(web, mating, number):
    """Whether the strand so numbered is a cell."""
    rows = strands_of(web, mating)
    need_number(number, len(rows))
    return is_round(across_table(web), rows[number])


def strand_at(web, mating, hand):
    """The number of the strand that has a hand."""
    rows = strands_of(web, mating)
    need_hand(web, hand)
    return strand_table(rows)[hand]


def over(web, mating, hand):
    """The other end of an end's border."""
    need_web(web)
    need_mating(web, mating)
    need_end(web, hand)
    return strand_from(across_table(web), mating, hand)[-1]


def shows_strand(web, mating, thing):
    """Whether a thing is one of the strands."""
    rows = strands_of(web, mating)
    return are_below(thing, HANDS * web[0]) and thing in rows
