"""Webs: posts with four hands each, and the ways that join hands or lead out."""

from tiewheel.webs.errors import NoEnds, NoHand, NoNumber, NoWeb
from tiewheel.webs.helper import is_below

MOST_POSTS = 60
HANDS = 4


def is_web(thing):
    """Whether a thing is a web."""
    return hands_across(thing) is not None


def hands_across(thing):
    """For each hand of a web the hand across, None of an end's; None of what is no web."""
    if not isinstance(thing, tuple) or len(thing) != 2:
        return None
    posts, ways = thing
    if not isinstance(posts, int) or isinstance(posts, bool) or not 0 <= posts <= MOST_POSTS:
        return None
    if not isinstance(ways, tuple):
        return None
    many = HANDS * posts
    beyond = [None] * many
    ends = []
    # Ways rise where their first hands do, as in the end no hand is found in two.
    least = 0
    for way in ways:
        if isinstance(way, tuple):
            match way:
                case [low, high]:
                    # A first hand mostly is just the next one, and to see that is the quickest.
                    if (low == least or isinstance(low, int) and low > least) and (
                        isinstance(high, int) and low < high and high < many
                    ):
                        beyond[low] = high
                        beyond[high] = low
                        least = low + 1
                        continue
                case [low]:
                    if isinstance(low, int) and low >= least and low < many:
                        # Until all hands are found to be met, an end has itself across.
                        beyond[low] = low
                        ends.append(low)
                        least = low + 1
                        continue
        return None
    if len(ends) != 2 * len(ways) - many or posts > 0 and not are_all_met(beyond, ways, least):
        return None
    for end in ends:
        beyond[end] = None
    return beyond


def are_all_met(beyond, ways, behind):
    """Whether each hand of a web of some posts has one across, and no truth stands for a hand.

    Behind is the hand behind the last way's first one. Of so many hands in all ways none is
    met twice then.
    """
    other = beyond[0]
    # Truths stand for the hands 0 and 1 at the most; these are in the first two ways.
    if other is None or isinstance(other, bool) or isinstance(ways[0][0], bool) or isinstance(ways[1][0], bool):
        return False
    # The hand 0 across is no None, but nothing either.
    beyond[other] = len(beyond)
    # As many first hands as there are hands ahead of the one behind: these are met.
    are_met = all(beyond[behind:]) if behind == len(ways) else all(beyond)
    beyond[other] = 0
    return are_met


def need_web(web):
    """For each hand the hand across, None of an end's; refuses what is no web."""
    beyond = hands_across(web)
    if beyond is None:
        raise NoWeb("no web")
    return beyond


def need_number(number, many):
    """Refuses what is no number of so many things."""
    if not is_below(number, many):
        raise NoNumber(number)


def need_hand(beyond, hand):
    """Refuses what is no hand of the web; beyond has the hands across, here and below."""
    if not is_below(hand, len(beyond)):
        raise NoHand(hand)


def need_end(beyond, hand):
    """Refuses what is no hand, then a hand that is no end."""
    need_hand(beyond, hand)
    if beyond[hand] is not None:
        raise NoEnds("the hand is no end")


def way_table(web):
    """For each hand the number of its way."""
    table = [0] * (HANDS * web[0])
    for number, way in enumerate(web[1]):
        for hand in way:
            table[hand] = number
    return table


def way_number(web, beyond, hand):
    """The number of a hand's way: faster than a table of all."""
    ways = web[1]
    other = beyond[hand]
    first = hand if other is None or hand < other else other
    # Ahead of a way stand as many as it has lesser hands at the most, and half as many at the least.
    if first < len(ways) and ways[first][0] == first:
        return first
    return ways.index((first,) if other is None else (first, beyond[first]), (first + 1) // 2)


def end_hands(web):
    """The ends' hands, rising."""
    return tuple([way[0] for way in web[1] if len(way) == 1])


def across(web, hand):
    """The other hand of a hand's way, None of an end's."""
    beyond = need_web(web)
    if not is_below(hand, len(beyond)):
        raise NoHand(hand)
    return beyond[hand]


def way_of(web, hand):
    """The number of a hand's way."""
    beyond = need_web(web)
    need_hand(beyond, hand)
    return way_number(web, beyond, hand)


def ends_of(web):
    """The ends' hands, rising."""
    need_web(web)
    return end_hands(web)


def ways_at(web, post):
    """The numbers of the ways of a post's four hands, in their order."""
    beyond = need_web(web)
    need_number(post, web[0])
    return tuple([way_number(web, beyond, HANDS * post + at) for at in range(HANDS)])
