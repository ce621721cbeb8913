"""Paintings in which coupled ends are alike."""

from tiewheel.webs.errors import NoEnds
from tiewheel.webs.helper import are_below, is_row_of_two
from tiewheel.webs.webs import HANDS, end_hands, need_web


def painted_by_couples(web, couples):
    """A painting in which the two ends of each couple are both painted or both bare."""
    links = need_web(web)
    if not are_couples(web, couples):
        raise NoEnds("no couples of all ends of the web")
    for one, other in couples:
        links[one] = other
        links[other] = one
    gone = [False] * len(links)
    flags = [False] * len(links)
    for post in range(web[0]):
        # A round has twice as many steps as posts, so that every other one
        # takes just one of the two by which it comes to and leaves a post.
        for hand in round_from(links, gone, post)[::2]:
            flags[hand] = True
            flags[links[hand]] = True
    return tuple([number for number, way in enumerate(web[1]) if flags[way[0]]])


def are_couples(web, thing):
    """Whether a thing is a row of pairs that has each end of the web once in all."""
    if not isinstance(thing, tuple):
        return False
    if not all([is_row_of_two(pair) and are_below(pair, HANDS * web[0]) for pair in thing]):
        return False
    return sorted([end for pair in thing for end in pair]) == list(end_hands(web))


def round_from(links, gone, post):
    """The hands by which a round leaves posts, that goes once along all that hangs together with a post.

    It is told from its last step back; where all was gone already it has no steps.
    """
    trail = [(post, None)]
    row = []
    while trail:
        here, came = trail[-1]
        hand = first_not_gone(gone, here)
        if hand is None:
            row.append(came)
            trail.pop()
        else:
            gone[hand] = True
            gone[links[hand]] = True
            trail.append((links[hand] // HANDS, hand))
    # The trail's own beginning comes last, and no hand led to it.
    return row[:-1]


def first_not_gone(gone, post):
    """The first hand of a post that is not gone yet, or None."""
    for hand in range(HANDS * post, HANDS * post + HANDS):
        if not gone[hand]:
            return hand
    return None
