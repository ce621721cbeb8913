"""Webs beside one another, sewn by pairs of ends, opened at ways; paintings and labels with them."""

from tiewheel.paintings.paintings import is_marked, need_painting
from tiewheel.products.labels import need_labels
from tiewheel.products.perms import chained, plain_unit, undone
from tiewheel.webs.errors import NoJoin, TooWide
from tiewheel.webs.helper import are_below, is_rising, is_rising_below, is_row_of_two
from tiewheel.webs.webs import HANDS, MOST_POSTS, need_web


def both_beside(one, other):
    """As `beside`, of what surely are webs of few enough posts."""
    more = HANDS * one[0]
    return (one[0] + other[0], one[1] + tuple([tuple([hand + more for hand in way]) for way in other[1]]))


def need_room(one, other):
    """Refuses webs of more posts together than a web may have."""
    if one[0] + other[0] > MOST_POSTS:
        raise TooWide(MOST_POSTS)


def beside(one, other):
    """The web of both, the other's posts behind those of the one."""
    need_web(one)
    need_web(other)
    need_room(one, other)
    return both_beside(one, other)


def are_pairs(beyond, thing):
    """As `is_pairs`, by the table of hands across."""
    if not isinstance(thing, tuple) or not all([is_row_of_two(pair) for pair in thing]):
        return False
    if not all([are_below(pair, len(beyond)) and pair[0] < pair[1] for pair in thing]) or not is_rising(thing):
        return False
    ends = [end for pair in thing for end in pair]
    return len(set(ends)) == len(ends) and all([beyond[end] is None for end in ends])


def need_pairs(beyond, pairs):
    """Refuses what are no pairs of ends."""
    if not are_pairs(beyond, pairs):
        raise NoJoin("no pairs of ends of the web")


def is_pairs(web, thing):
    """Whether a thing is a rising row of pairs of ends, the lesser ahead, no end in two."""
    return are_pairs(need_web(web), thing)


def sewn_web(web, pairs):
    """As `sewn`, of what surely are pairs."""
    gone = {end: True for pair in pairs for end in pair}
    left = [way for way in web[1] if len(way) == 2 or way[0] not in gone]
    return (web[0], tuple(sorted(left + list(pairs))))


def sewn(web, pairs):
    """The web in which the two ends of each pair are one way."""
    need_pairs(need_web(web), pairs)
    return sewn_web(web, pairs)


def need_openings(web, ways):
    """Refuses what is no rising row of numbers of ways of two hands."""
    if not is_rising_below(ways, len(web[1])) or not all([len(web[1][number]) == 2 for number in ways]):
        raise NoJoin("no ways of two hands")


def opened_web(web, ways):
    """As `opened`, of what surely are such ways."""
    told = []
    for number, way in enumerate(web[1]):
        if number in ways:
            told.extend([(hand,) for hand in way])
        else:
            told.append(way)
    return (web[0], tuple(sorted(told)))


def opened(web, ways):
    """The web in which each of these ways is two ends."""
    need_web(web)
    need_openings(web, ways)
    return opened_web(web, ways)


def are_joints(ahead, behind, thing):
    """Whether a thing is joints of two webs, by their tables of hands across."""
    if not isinstance(thing, tuple) or not all([is_row_of_two(pair) for pair in thing]):
        return False
    if not all([are_below(pair[:1], len(ahead)) and are_below(pair[1:], len(behind)) for pair in thing]):
        return False
    if not is_rising(thing) or not all([ahead[end] is None and behind[other] is None for end, other in thing]):
        return False
    return len(set([end for end, _ in thing])) == len(thing) == len(set([other for _, other in thing]))


def joined(one, other, joints):
    """Both webs beside one another, sewn by pairs of an end of the one and one of the other."""
    ahead = need_web(one)
    behind = need_web(other)
    if not are_joints(ahead, behind, joints):
        raise NoJoin("no joints of the two webs")
    need_room(one, other)
    more = HANDS * one[0]
    return sewn_web(both_beside(one, other), tuple([(end, further + more) for end, further in joints]))


def need_alike(marks, pairs):
    """Refuses a painting with a pair of ends, the one painted, the other bare."""
    if not all([is_marked(marks, one) == is_marked(marks, other) for one, other in pairs]):
        raise NoJoin("a painting that can't be sewn")


def same_painting(web, marks):
    """The painting of another web of the same posts by which the same hands are painted."""
    return tuple([number for number, way in enumerate(web[1]) if is_marked(marks, way[0])])


def sewn_painting(web, painting, pairs):
    """The painting of the sewn web."""
    beyond = need_web(web)
    marks = need_painting(web, painting)
    need_pairs(beyond, pairs)
    need_alike(marks, pairs)
    return same_painting(sewn_web(web, pairs), marks)


def opened_painting(web, painting, ways):
    """The painting of the opened web."""
    need_web(web)
    marks = need_painting(web, painting)
    need_openings(web, ways)
    return same_painting(opened_web(web, ways), marks)


def sewn_labels(web, labels, pairs):
    """The labels of the sewn web."""
    beyond = need_web(web)
    need_labels(web, labels)
    need_pairs(beyond, pairs)
    told = {way: label for way, label in zip(web[1], labels)}
    for one, other in pairs:
        # An end's label is gone in: out by the lesser one, in by the greater.
        told[(one, other)] = chained(undone(told[(one,)]), told[(other,)])
    return tuple([told[way] for way in sewn_web(web, pairs)[1]])


def opened_labels(web, labels, ways):
    """The labels of the opened web."""
    need_web(web)
    need_labels(web, labels)
    need_openings(web, ways)
    told = {way: label for way, label in zip(web[1], labels)}
    for number in ways:
        one, other = web[1][number]
        told[(one,)] = plain_unit(len(labels[number]))
        told[(other,)] = labels[number]
    return tuple([told[way] for way in opened_web(web, ways)[1]])
