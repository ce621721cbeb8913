"""Matings: at each post its four hands in two pairs."""

from tiewheel.webs.errors import NoMating
from tiewheel.webs.helper import are_below
from tiewheel.webs.webs import HANDS, need_hand, need_web

MATINGS = 3
# A hand and its mate, counted at their post in two bits, are unlike in just these bits.
MATE_BITS = (1, 3, 2)
# The corners of a post by each mating, rising.
CORNERS = (((0, 1), (2, 3)), ((0, 3), (1, 2)), ((0, 2), (1, 3)))


def is_mating(web, thing):
    """Whether a thing is a mating of the web."""
    need_web(web)
    return mates_all(web, thing)


def mates_all(web, thing):
    """As `is_mating`, of what surely is a web."""
    return are_below(thing, MATINGS) and len(thing) == web[0]


def need_mating(web, mating):
    """Refuses what is no mating of the web."""
    if not mates_all(web, mating):
        raise NoMating("no mating of the web")


def mate_bits(mating):
    """For each post the bits in which a hand there and its mate are unlike."""
    return [MATE_BITS[at] for at in mating]


def mate(web, mating, hand):
    """The other hand of a hand's pair."""
    beyond = need_web(web)
    need_mating(web, mating)
    need_hand(beyond, hand)
    return hand ^ MATE_BITS[mating[hand // HANDS]]


def corners_of(web, mating):
    """All pairs of mates, the lesser hand ahead, rising."""
    need_web(web)
    need_mating(web, mating)
    return tuple([
        (HANDS * post + one, HANDS * post + other) for post, at in enumerate(mating) for one, other in CORNERS[at]
    ])


def third(web, mating, other):
    """At each post the mating that neither is, or the same as both where they are alike."""
    need_web(web)
    need_mating(web, mating)
    need_mating(web, other)
    return third_of(mating, other)


def third_of(mating, other):
    """As `third`, of what surely are matings."""
    return tuple([one if one == two else MATINGS - one - two for one, two in zip(mating, other)])
