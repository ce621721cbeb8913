"""Matings: at each post its four hands in two pairs."""

from tiewheel.webs.errors import NoMating
from tiewheel.webs.helper import are_below
from tiewheel.webs.webs import HANDS, need_hand, need_web

MATINGS = 3
# A hand and its mate, counted at their post in two bits, are unlike in just these bits.
MATE_BITS = (1, 3, 2)


def is_mating(web, thing):
    """Whether a thing is a mating of the web."""
    need_web(web)
    return mates_all(web, thing)


def mates_all(web, thing):
    """As `is_mating`, of what surely is a web."""
    return are_below(thing, MATINGS) and len(thing) == web[0]


def need_mating(web, mating):
    """Refuses what is no mating of the web."""
    if not mates_all(web, mating):
        raise NoMating("no mating of the web")


def mate_of(mating, hand):
    """The mate of a hand, both told by their numbers in the web."""
    return hand ^ MATE_BITS[mating[hand // HANDS]]


def mate(web, mating, hand):
    """The other hand of a hand's pair."""
    need_web(web)
    need_mating(web, mating)
    need_hand(web, hand)
    return mate_of(mating, hand)


def corners_of(web, mating):
    """All pairs of mates, the lesser hand ahead, rising."""
    need_web(web)
    need_mating(web, mating)
    pairs = [(hand, mate_of(mating, hand)) for hand in range(HANDS * web[0])]
    return tuple([pair for pair in pairs if pair[0] < pair[1]])


def third(web, mating, other):
    """At each post the mating that neither is, or the same as both where they are alike."""
    need_web(web)
    need_mating(web, mating)
    need_mating(web, other)
    return tuple([one if one == two else MATINGS - one - two for one, two in zip(mating, other)])
