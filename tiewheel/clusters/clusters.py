"""Clusters: strands that hang together by posts that are not crossed."""

from tiewheel.clusters.crossed import loud_flags, needed_strands
from tiewheel.matings.strands import post_pairs, strand_table
from tiewheel.webs.helper import are_below, both_ways, groups, is_rising, is_row_of_two, neighbours, path_to, reached
from tiewheel.webs.webs import need_number

LOUD = "loud"
QUIET = "quiet"


def plain_pairs(flags, mating, rows):
    """For each post that isn't crossed the numbers of the two corners' strands."""
    return post_pairs(strand_table(rows), mating, [post for post, flag in enumerate(flags) if not flag])


def cluster_rows(beyond, flags, mating, rows):
    """All clusters, (word, numbers) each, by their least numbers."""
    loud = loud_flags(beyond, flags, rows)
    lots = groups(len(rows), plain_pairs(flags, mating, rows))
    return tuple([(LOUD if any([loud[number] for number in lot]) else QUIET, lot) for lot in lots])


def clusters(web, painting, mating):
    """All clusters, (word, numbers of strands) each, by their least numbers."""
    beyond, flags, rows = needed_strands(web, painting, mating)
    return cluster_rows(beyond, flags, mating, rows)


def cluster_at(web, painting, mating, number):
    """The number of the cluster that has the strand so numbered."""
    _, flags, rows = needed_strands(web, painting, mating)
    need_number(number, len(rows))
    lots = groups(len(rows), plain_pairs(flags, mating, rows))
    return [number in lot for lot in lots].index(True)


def chain(web, painting, mating, one, other):
    """("chain", strands from the one to the other), or ("apart", strands) where none leads there."""
    _, flags, rows = needed_strands(web, painting, mating)
    need_number(one, len(rows))
    need_number(other, len(rows))
    near = neighbours(len(rows), plain_pairs(flags, mating, rows))
    ahead = reached(near, one)
    if other in ahead:
        return ("chain", tuple(path_to(ahead, other)))
    return ("apart", tuple(sorted(ahead)))


def shows_chain(web, painting, mating, one, other, thing):
    """Whether a thing is one of what `chain` may tell."""
    _, flags, rows = needed_strands(web, painting, mating)
    need_number(one, len(rows))
    need_number(other, len(rows))
    if not is_row_of_two(thing) or not are_below(thing[1], len(rows)):
        return False
    word, numbers = thing
    pairs = plain_pairs(flags, mating, rows)
    if word == "chain":
        return numbers[:1] == (one,) and numbers[-1:] == (other,) and is_chain(pairs, numbers)
    return word == "apart" and one in numbers and other not in numbers and is_apart(pairs, numbers)


def is_chain(pairs, numbers):
    """Whether each strand is another one than that ahead of it, and meets it."""
    meeting = both_ways(pairs)
    return all([pair[0] != pair[1] and pair in meeting for pair in zip(numbers, numbers[1:])])


def is_apart(pairs, numbers):
    """Whether strands stand rising, and none of them meets another one."""
    return is_rising(numbers) and all([(one in numbers) == (other in numbers) for one, other in pairs])
