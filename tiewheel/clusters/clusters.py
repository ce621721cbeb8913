"""Clusters: strands that hang together by posts that are not crossed."""

from tiewheel.clusters.crossed import crossed_flags, loud_flags, need_mated_painting, needed_strands
from tiewheel.matings.strands import post_pairs, strand_rows
from tiewheel.webs.helper import are_below, both_ways, groups, is_rising, is_row_of_two, neighbours, path_to, reached
from tiewheel.webs.webs import need_number

LOUD = "loud"
QUIET = "quiet"


def plain_pairs(web, painting, mating, rows):
    """For each post that isn't crossed the numbers of the two corners' strands."""
    flags = crossed_flags(web, painting, mating)
    return post_pairs(rows, mating, [post for post in range(web[0]) if not flags[post]])


def cluster_rows(web, painting, mating):
    """All clusters, (word, numbers) each, by their least numbers."""
    rows = strand_rows(web, mating)
    loud = loud_flags(web, painting, mating, rows)
    lots = groups(len(rows), plain_pairs(web, painting, mating, rows))
    return tuple([(LOUD if any([loud[number] for number in lot]) else QUIET, lot) for lot in lots])


def clusters(web, painting, mating):
    """All clusters, (word, numbers of strands) each, by their least numbers."""
    need_mated_painting(web, painting, mating)
    return cluster_rows(web, painting, mating)


def cluster_at(web, painting, mating, number):
    """The number of the cluster that has the strand so numbered."""
    needed_strands(web, painting, mating, number)
    lots = [lot for _, lot in cluster_rows(web, painting, mating)]
    return [number in lot for lot in lots].index(True)


def chain(web, painting, mating, one, other):
    """("chain", strands from the one to the other), or ("apart", strands) where none leads there."""
    rows = needed_strands(web, painting, mating, one)
    need_number(other, len(rows))
    near = neighbours(len(rows), plain_pairs(web, painting, mating, rows))
    ahead = reached(near, one)
    if other in ahead:
        return ("chain", tuple(path_to(ahead, other)))
    return ("apart", tuple(sorted(ahead)))


def shows_chain(web, painting, mating, one, other, thing):
    """Whether a thing is one of what `chain` may tell."""
    rows = needed_strands(web, painting, mating, one)
    need_number(other, len(rows))
    if not is_row_of_two(thing) or not are_below(thing[1], len(rows)):
        return False
    word, numbers = thing
    pairs = plain_pairs(web, painting, mating, rows)
    if word == "chain":
        return numbers[:1] == (one,) and numbers[-1:] == (other,) and is_chain(pairs, numbers)
    return word == "apart" and one in numbers and other not in numbers and is_apart(pairs, numbers)


def is_chain(pairs, numbers):
    """Whether each strand is another one than that ahead of it, and meets it."""
    meeting = both_ways(pairs)
    return all([pair[0] != pair[1] and pair in meeting for pair in zip(numbers, numbers[1:])])


def is_apart(pairs, numbers):
    """Whether strands stand rising, and none of them meets another one."""
    return is_rising(numbers) and all([(one in numbers) == (other in numbers) for one, other in pairs])
