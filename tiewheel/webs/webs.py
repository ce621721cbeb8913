"""Webs: posts with four hands each, and the ways that join hands or lead out."""

from tiewheel.webs.errors import NoEnds, NoHand, NoNumber, NoWeb
from tiewheel.webs.helper import is_below, is_rising, is_rising_below, is_row_of_two

MOST_POSTS = 60
HANDS = 4


def is_web(thing):
    """Whether a thing is a web."""
    if not is_row_of_two(thing):
        return False
    many, ways = thing
    if not is_below(many, MOST_POSTS + 1) or not isinstance(ways, tuple):
        return False
    if not all([is_way(way, many) for way in ways]) or not is_rising(ways):
        return False
    return sorted([hand for way in ways for hand in way]) == list(range(HANDS * many))


def is_way(thing, many):
    """Whether a thing is a way in a web of so many posts, for itself."""
    return is_rising_below(thing, HANDS * many) and len(thing) in (1, 2)


def need_web(web):
    """Refuses what is no web."""
    if not is_web(web):
        raise NoWeb("no web")


def need_number(number, many):
    """Refuses what is no number of so many things."""
    if not is_below(number, many):
        raise NoNumber(number)


def need_hand(web, hand):
    """Refuses what is no hand of the web."""
    if not is_below(hand, HANDS * web[0]):
        raise NoHand(hand)


def need_end(web, hand):
    """Refuses what is no hand, then a hand that is no end."""
    need_hand(web, hand)
    if across_table(web)[hand] is not None:
        raise NoEnds("the hand is no end")


def across_table(web):
    """For each hand the hand across, None of an end's."""
    many, ways = web
    table = [None] * (HANDS * many)
    for way in ways:
        if len(way) == 2:
            table[way[0]] = way[1]
            table[way[1]] = way[0]
    return table


def way_table(web):
    """For each hand the number of its way."""
    many, ways = web
    table = [None] * (HANDS * many)
    for number, way in enumerate(ways):
        for hand in way:
            table[hand] = number
    return table


def end_hands(web):
    """The ends' hands, rising."""
    return tuple([way[0] for way in web[1] if len(way) == 1])


def across(web, hand):
    """The other hand of a hand's way, None of an end's."""
    need_web(web)
    need_hand(web, hand)
    return across_table(web)[hand]


def way_of(web, hand):
    """The number of a hand's way."""
    need_web(web)
    need_hand(web, hand)
    return way_table(web)[hand]


def ends_of(web):
    """The ends' hands, rising."""
    need_web(web)
    return end_hands(web)


def ways_at(web, post):
    """The numbers of the ways of a post's four hands, in their order."""
    need_web(web)
    need_number(post, web[0])
    return tuple(way_table(web)[HANDS * post:HANDS * post + HANDS])
