"""Tables: how many paintings have which ties and how many rings.

Within this file a half is (far, ties, rings). Far has for each hand at the end of an open way, in
their order, the hand at the other end of its piece, as it is where the piece is painted, else -1
less it; ties are the pieces that are whole, rising, rings how many have closed.
"""

from tiewheel.lines.lines import BARE, PAINTED, line_rows
from tiewheel.matings.matings import need_mating
from tiewheel.matings.strands import is_round, strand_rows
from tiewheel.paintings.fronts import CHOICES, need_ends
from tiewheel.paintings.paintings import need_painting
from tiewheel.webs.errors import NoEnds, TooWide
from tiewheel.webs.helper import are_below, is_rising, is_row_of_two, is_whole
from tiewheel.webs.webs import HANDS, end_hands, need_web

MOST_HALVES = 4000


class Step:
    """How halves go on over a post.

    choices are what `choices_at` tells; glued has the pairs of hands across from one another of
    which the post has the greater one; below has the hands of open ways below the post, above
    those behind it.
    """

    def __init__(self, beyond, post, ends):
        hands = list(range(HANDS * post, HANDS * post + HANDS))
        self.choices = choices_at(beyond, hands, ends)
        self.glued = [(beyond[hand], hand) for hand in hands if beyond[hand] is not None and beyond[hand] < hand]
        self.below = open_hands(beyond, hands[0])
        self.above = open_hands(beyond, hands[0] + HANDS)


def choices_at(beyond, hands, ends):
    """For each choice of two painted hands of a post that can be (needs, links).

    Needs has for each hand at a post below, across from one here, whether it is painted; links
    what each hand here is joined with, as far has it.
    """
    told = []
    for choice in CHOICES:
        painted = [hands[at] for at in choice]
        if all([can_be(beyond, hands, painted, hand, ends) for hand in hands]):
            bare = [hand for hand in hands if hand not in painted]
            met = [hand for hand in hands if beyond[hand] is not None and beyond[hand] < hands[0]]
            needs = [(beyond[hand], hand in painted) for hand in met]
            links = {painted[0]: painted[1], painted[1]: painted[0], bare[0]: -1 - bare[1], bare[1]: -1 - bare[0]}
            told.append((needs, links))
    return told


def can_be(beyond, hands, painted, hand, ends):
    """Whether a hand may be painted or bare as it is where just these hands of a post are painted."""
    other = beyond[hand]
    if other is None:
        return ends is None or (hand in ends) == (hand in painted)
    return other not in hands or (other in painted) == (hand in painted)


def open_hands(beyond, cut):
    """The hands below a first hand of a post that are across from it or one above it, rising."""
    return [hand for hand in range(cut) if beyond[hand] is not None and beyond[hand] >= cut]


def hand_of(link):
    """The hand that a link leads to, be its piece painted or bare."""
    return link if link >= 0 else -1 - link


def glue(links, pairs):
    """How many rings close where pieces are joined at these pairs of hands; links become those of longer pieces."""
    rings = 0
    for one, other in pairs:
        ahead = links.pop(one)
        behind = links.pop(other)
        if hand_of(ahead) == other:
            rings += 1
        else:
            links[hand_of(ahead)] = behind
            links[hand_of(behind)] = ahead
    return rings


def whole_ties(beyond, links):
    """The pieces among links that go from an end to an end, (kind, end, end) each."""
    ties = []
    for one, link in links.items():
        other = hand_of(link)
        if one < other and beyond[one] is None and beyond[other] is None:
            ties.append((PAINTED if link >= 0 else BARE, one, other))
    return ties


def halves_from(beyond, step, half):
    """The halves to which a post leads from a half, one for each choice that fits."""
    far, ties, rings = half
    links = {hand: link for hand, link in zip(step.below, far)}
    told = []
    for needs, joined in step.choices:
        if all([(links[hand] >= 0) == shade for hand, shade in needs]):
            then = {**links, **joined}
            more = rings + glue(then, step.glued)
            fresh = whole_ties(beyond, then)
            whole = tuple(sorted(list(ties) + fresh)) if fresh else ties
            told.append((tuple([then[hand] for hand in step.above]), whole, more))
    return told


def counts_by_half(beyond, ends):
    """For each half behind all posts how many paintings have it."""
    counts = {((), (), 0): 1}
    for post in range(len(beyond) // HANDS):
        step = Step(beyond, post, ends)
        then = {}
        for half, many in counts.items():
            for found in halves_from(beyond, step, half):
                then[found] = then.get(found, 0) + many
            if len(then) > MOST_HALVES:
                raise TooWide(MOST_HALVES)
        counts = then
    return counts


def account(ties, rings):
    """The account of a painting by its ties, (kind, end, end) each."""
    painted = sorted([(one, other) for kind, one, other in ties if kind == PAINTED])
    bare = sorted([(one, other) for kind, one, other in ties if kind == BARE])
    return (tuple(painted), tuple(bare), rings)


def told_table(beyond, ends):
    """The table of what surely is a web, with ends told or None."""
    counts = counts_by_half(beyond, ends)
    return tuple(sorted([(account(ties, rings), many) for (_, ties, rings), many in counts.items()]))


def account_of(web, painting):
    """(painted ties, bare ties, how many rings) of a painting."""
    beyond = need_web(web)
    lines = line_rows(beyond, need_painting(web, painting))
    ties = [(kind, row[0], row[-1]) for kind, row in lines if not is_round(beyond, row)]
    return account(ties, len(lines) - len(ties))


def table_of(web, *, ends=None):
    """Pairs (account, how many of the meant paintings have it), rising."""
    beyond = need_web(web)
    need_ends(web, ends)
    return told_table(beyond, ends)


def many_with(web, painted, bare, *, ends=None):
    """(rings, how many) of the meant paintings that have just these ties, rising."""
    beyond = need_web(web)
    if not are_ties(web, painted, bare):
        raise NoEnds("no rows of pairs in which each end is once")
    need_ends(web, ends)
    return tuple([(at[2], many) for at, many in told_table(beyond, ends) if at[:2] == (painted, bare)])


def are_ties(web, painted, bare):
    """Whether things are rising rows of pairs, the lesser end ahead, and each end of the web in one pair of both."""
    for thing in (painted, bare):
        if not isinstance(thing, tuple) or not all([is_row_of_two(pair) for pair in thing]):
            return False
        if not all([are_below(pair, HANDS * web[0]) and pair[0] < pair[1] for pair in thing]) or not is_rising(thing):
            return False
    return sorted([end for pair in painted + bare for end in pair]) == list(end_hands(web))


def is_account(web, thing):
    """Whether a thing is (painted, bare, rings), as accounts of the web are."""
    if not isinstance(thing, tuple) or len(thing) != 3:
        return False
    return are_ties(web, thing[0], thing[1]) and is_whole(thing[2]) and thing[2] >= 0


def is_table(web, thing):
    """Whether a thing is a rising row of pairs (account, how many), no account twice."""
    if not isinstance(thing, tuple) or not all([is_row_of_two(pair) for pair in thing]):
        return False
    if not all([is_account(web, at) and is_whole(many) and many >= 1 for at, many in thing]):
        return False
    return is_rising([at for at, _ in thing])


def table_over(web, mating, table):
    """A table gone over by a mating, rising again."""
    beyond = need_web(web)
    need_mating(web, mating)
    if not is_table(web, table):
        raise NoEnds("no table of the web")
    went = {}
    for row in strand_rows(beyond, mating):
        went[row[0]] = row[-1]
        went[row[-1]] = row[0]
    return tuple(sorted([
        ((pairs_over(went, bare), pairs_over(went, painted), rings), many) for (painted, bare, rings), many in table
    ]))


def pairs_over(went, pairs):
    """Pairs of ends, each end gone over, the lesser ahead, rising."""
    return tuple(sorted([tuple(sorted([went[one], went[other]])) for one, other in pairs]))
