"""Webs: posts with four hands each, and the ways that join hands or lead out."""

from tiewheel.webs.errors import NoEnds, NoHand, NoNumber, NoWeb
from tiewheel.webs.helper import is_below, is_row_of_two

MOST_POSTS = 60
HANDS = 4


def is_web(thing):
    """Whether a thing is a web."""
    return hands_across(thing) is not None


def hands_across(thing):
    """For each hand of a web the hand across, None of an end's; None of what is no web."""
    if not is_row_of_two(thing) or not is_below(thing[0], MOST_POSTS + 1) or not isinstance(thing[1], tuple):
        return None
    many = HANDS * thing[0]
    # One more than there are hands, so that looking for the next hand ends there.
    beyond = [None] * (many + 1)
    # As ways rise, each begins with the least hand that none ahead of it has. So the first hand
    # has just to be equal to that one, and no row of all hands has to be sorted.
    least = 0
    # All hands are met where, of so many ways, just so many are ends.
    ends_left = 2 * len(thing[1]) - many
    for way in thing[1]:
        while beyond[least] is not None:
            least += 1
        if isinstance(way, tuple) and len(way) == 2:
            low, high = way
            if low != least or not isinstance(high, int) or high <= least or high >= many or beyond[high] is not None:
                return None
            beyond[least] = high
            beyond[high] = least
        elif way == (least,) and least < many:
            least += 1
            ends_left -= 1
        else:
            return None
    if ends_left != 0 or has_truths(thing[1]):
        return None
    beyond.pop()
    return beyond


def has_truths(ways):
    """Whether a truth stands for the hand 0 or 1; these stand in the first two of rising ways."""
    return any([isinstance(hand, bool) for way in ways[:2] for hand in way])


def need_web(web):
    """For each hand the hand across, None of an end's; refuses what is no web."""
    beyond = hands_across(web)
    if beyond is None:
        raise NoWeb("no web")
    return beyond


def need_number(number, many):
    """Refuses what is no number of so many things."""
    if not is_below(number, many):
        raise NoNumber(number)


def need_hand(beyond, hand):
    """Refuses what is no hand of the web; beyond has the hands across, here and below."""
    if not is_below(hand, len(beyond)):
        raise NoHand(hand)


def need_end(beyond, hand):
    """Refuses what is no hand, then a hand that is no end."""
    need_hand(beyond, hand)
    if beyond[hand] is not None:
        raise NoEnds("the hand is no end")


def way_table(web):
    """For each hand the number of its way."""
    table = [0] * (HANDS * web[0])
    for number, way in enumerate(web[1]):
        for hand in way:
            table[hand] = number
    return table


def way_number(web, beyond, hand):
    """The number of a hand's way: faster than a table of all."""
    other = beyond[hand]
    if other is None:
        return web[1].index((hand,))
    return web[1].index((hand, other) if hand < other else (other, hand))


def end_hands(web):
    """The ends' hands, rising."""
    return tuple([way[0] for way in web[1] if len(way) == 1])


def across(web, hand):
    """The other hand of a hand's way, None of an end's."""
    beyond = need_web(web)
    need_hand(beyond, hand)
    return beyond[hand]


def way_of(web, hand):
    """The number of a hand's way."""
    beyond = need_web(web)
    need_hand(beyond, hand)
    return way_number(web, beyond, hand)


def ends_of(web):
    """The ends' hands, rising."""
    need_web(web)
    return end_hands(web)


def ways_at(web, post):
    """The numbers of the ways of a post's four hands, in their order."""
    beyond = need_web(web)
    need_number(post, web[0])
    return tuple([way_number(web, beyond, HANDS * post + at) for at in range(HANDS)])
