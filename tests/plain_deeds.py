"""Plain tellings of lines, tracks, deeds and heirs, word by word as the document has them; they call nothing of it."""

from functools import lru_cache
from random import Random

from support import (
    BIG_WEBS, LONG, ROUND, SMALL_WEBS, board, is_strictly_rising, plain_corner_strands, plain_ends, plain_is_mating,
    plain_mate, plain_matings, plain_own, plain_painted_hands, plain_paintings, plain_strands, plain_way, random_mating,
    random_web, whole_row,
)

OTHER = {"painted": "bare", "bare": "painted"}
MIDDLE_WEBS = [board(2, 3), board(3, 3), board(2, 5)] + [random_web(seed, 8, 8) for seed in range(200, 214)]


@lru_cache(maxsize=None)
def chance_painting(web, seed):
    """A painting found by flipping borders and cells of chance matings, or, of few posts, any."""
    if web[0] <= 4:
        rows = plain_paintings(web)
        return rows[Random(seed).randrange(len(rows))]
    chance = Random(seed)
    painting = walked_painting(web)
    for _ in range(6):
        # Most posts crossed, so that there are many clusters to choose from.
        own = plain_own(web, painting)
        mating = tuple((at + chance.choice((0, 1, 1, 2, 2))) % 3 for at in own)
        lots = plain_clusters(web, painting, mating)
        chosen = [at for at in range(len(lots)) if chance.random() < 0.5]
        painting = plain_flipped(web, painting, mating, tuple(chosen))
    return painting


@lru_cache(maxsize=None)
def walked_painting(web):
    """Some painting: walks from post to post by hands not gone yet, ends joined in pairs; each other way painted."""
    links = dict()
    for way in web[1]:
        if len(way) == 2:
            links[way[0]], links[way[1]] = way[1], way[0]
    ends = plain_ends(web)
    for one, other in zip(ends[::2], ends[1::2]):
        links[one], links[other] = other, one
    left = set(links)
    painted = set()
    for post in range(web[0]):
        trail, walk = [(post, None)], []
        while trail:
            here, came = trail[-1]
            hands = [hand for hand in range(4 * here, 4 * here + 4) if hand in left]
            if not hands:
                walk.append(came)
                trail.pop()
            else:
                left -= {hands[0], links[hands[0]]}
                trail.append((links[hands[0]] // 4, hands[0]))
        for hand in walk[:-1:2]:
            painted |= {hand, links[hand]}
    return tuple(number for number, way in enumerate(web[1]) if way[0] in painted)


@lru_cache(maxsize=None)
def plain_lines(web, painting):
    hands = plain_painted_hands(web, painting)
    rows = plain_strands(web, plain_own(web, painting))
    return tuple(sorted(("painted" if row[0] in hands else "bare", row) for row in rows))


@lru_cache(maxsize=None)
def plain_crossed(web, painting, mating):
    own = plain_own(web, painting)
    return tuple(post for post in range(web[0]) if own[post] != mating[post])


@lru_cache(maxsize=None)
def plain_clusters(web, painting, mating):
    rows = plain_strands(web, mating)
    crossed = plain_crossed(web, painting, mating)
    lots = {number: {number} for number in range(len(rows))}
    for post in range(web[0]):
        if post not in crossed:
            one, other = plain_corner_strands(web, mating, post)
            both = lots[one] | lots[other]
            for number in both:
                lots[number] = both
    loud = set()
    for number, row in enumerate(rows):
        corners = len([hand for hand in row if hand // 4 in crossed]) // 2
        if corners > (1 if row[0] in plain_ends(web) else 2):
            loud.add(number)
    lots = sorted({tuple(sorted(lot)) for lot in lots.values()})
    return tuple(("loud" if loud & set(lot) else "quiet", lot) for lot in lots)


@lru_cache(maxsize=None)
def plain_loud(web, painting, mating):
    return tuple(at for at, (word, _) in enumerate(plain_clusters(web, painting, mating)) if word == "loud")


@lru_cache(maxsize=None)
def plain_cluster_ways(web, painting, mating, at):
    rows = plain_strands(web, mating)
    return {plain_way(web, hand) for number in plain_clusters(web, painting, mating)[at][1] for hand in rows[number]}


def plain_flipped(web, painting, mating, flips):
    ways = set(painting)
    for at in flips:
        ways ^= plain_cluster_ways(web, painting, mating, at)
    return tuple(sorted(ways))


def plain_walked(web, painting, mating, row):
    """(corner come by, corner gone by) of each crossed post along a line's strand."""
    crossed = plain_crossed(web, painting, mating)
    told = []
    for at in range(0, len(row), 2):
        if row[at] // 4 in crossed:
            told.append(tuple(min(hand, plain_mate(mating, hand)) for hand in row[at:at + 2]))
    return told


@lru_cache(maxsize=None)
def plain_track(web, painting, mating, row):
    steps = plain_walked(web, painting, mating, row)
    back = [(gone, come) for come, gone in steps[::-1]]
    ways = [steps, back]
    if row[0] not in plain_ends(web):
        ways = [way[at:] + way[:at] for way in ways for at in range(len(way))] or [[]]
    return min(tuple(hand for step in way for hand in step) for way in ways)


def plain_is_flips(web, painting, mating, thing):
    many = len(plain_clusters(web, painting, mating))
    return whole_row(thing) and is_strictly_rising(thing) and all(0 <= at < many for at in thing)


def plain_is_deed(web, painting, thing):
    if not isinstance(thing, tuple) or not thing:
        return False
    if thing[0] == "bare":
        return len(thing) == 1
    if len(thing) < 2 or not plain_is_mating(web, thing[1]):
        return False
    if thing[0] == "turn":
        return len(thing) == 2
    return thing[0] == "flip" and len(thing) == 3 and plain_is_flips(web, painting, thing[1], thing[2])


@lru_cache(maxsize=None)
def plain_behind(web, painting, deed):
    if deed[0] == "bare":
        return tuple(way for way in range(len(web[1])) if way not in painting)
    flips = deed[2] if deed[0] == "flip" else plain_loud(web, painting, deed[1])
    return plain_flipped(web, painting, deed[1], flips)


def plain_first_loud(web, painting, deed):
    """The first loud cluster that a flip flips, None where the deed keeps lines."""
    loud = [at for at in deed[2] if at in plain_loud(web, painting, deed[1])] if deed[0] == "flip" else []
    return loud[0] if loud else None


def is_tie(web, row):
    return row[0] in plain_ends(web)


def plain_heir_lines(web, painting, deed):
    """For each line its heir, found among all lines behind."""
    then = plain_behind(web, painting, deed)
    found = []
    for kind, row in plain_lines(web, painting):
        if deed[0] == "bare":
            heirs = [line for line in plain_lines(web, then) if line == (OTHER[kind], row)]
        else:
            track = plain_track(web, painting, deed[1], row)
            if track:
                wanted = OTHER[kind] if deed[0] == "turn" else kind
                heirs = [line for line in plain_lines(web, then)
                         if line[0] == wanted and plain_track(web, then, deed[1], line[1]) == track]
            else:
                heirs = [line for line in plain_lines(web, then) if line[1] == row]
                repainted = (row[0] in plain_painted_hands(web, then)) != (kind == "painted")
                assert heirs[0][0] == (OTHER[kind] if repainted else kind)
        assert len(heirs) == 1, (web, painting, deed)
        found.append(heirs[0])
    return found


def plain_gone(web, painting, deed):
    """A dict of where each end of the web has gone."""
    told = {}
    then = plain_behind(web, painting, deed)
    for kind, row in plain_lines(web, painting):
        for end in (row[0], row[-1]) if is_tie(web, row) else ():
            told[end] = end
            if deed[0] != "bare" and plain_track(web, painting, deed[1], row):
                border = [strand for strand in plain_strands(web, deed[1]) if end in strand][0]
                way = plain_way(web, end)
                repainted = (way in painting) != (way in then)
                if repainted == (deed[0] == "flip"):
                    told[end] = border[0] + border[-1] - end
    return told


def plain_heirs(web, painting, deed):
    lines = plain_lines(web, plain_behind(web, painting, deed))
    gone = plain_gone(web, painting, deed)
    told = []
    for (_, row), heir in zip(plain_lines(web, painting), plain_heir_lines(web, painting, deed)):
        told.append((lines.index(heir), (gone[row[0]], gone[row[-1]]) if is_tie(web, row) else ()))
    return tuple(told)


def near_own(web, painting, seed):
    """A mating by which few posts are crossed."""
    chance = Random(seed)
    own = list(plain_own(web, painting))
    for post in range(len(own)):
        if chance.random() < 0.4:
            own[post] = chance.randint(0, 2)
    return tuple(own)


def small_samples(paintings=3, matings=5):
    for web in SMALL_WEBS:
        rows = plain_matings(web)
        for at in range(paintings):
            painting = chance_painting(web, at)
            for mating in rows[at::max(1, len(rows) // matings)]:
                yield web, painting, mating


def middle_samples(many=4):
    for web in MIDDLE_WEBS:
        for seed in range(many):
            painting = chance_painting(web, seed)
            yield web, painting, random_mating(seed, web)
            yield web, painting, near_own(web, painting, seed)


def large_samples():
    for web in [LONG, ROUND] + BIG_WEBS[2:6]:
        painting = chance_painting(web, 1)
        yield web, painting, random_mating(2, web)
        yield web, painting, near_own(web, painting, 3)
        yield web, painting, plain_own(web, painting)


def keeping_deeds(web, painting, mating, seed=0):
    """Deeds that keep lines: bare, the turn, flips of quiet clusters, one by one and several at once."""
    quiet = [at for at, (word, _) in enumerate(plain_clusters(web, painting, mating)) if word == "quiet"]
    chance = Random(seed)
    lots = [(), tuple(quiet)] + [(at,) for at in quiet[:2] + quiet[-1:]]
    lots.append(tuple(at for at in quiet if chance.random() < 0.5))
    return [("bare",), ("turn", mating)] + [("flip", mating, flips) for flips in sorted(set(lots))]


def chance_keeping_deed(web, painting, chance):
    """One deed that keeps lines, by a mating of chance."""
    word = chance.choice(["bare", "turn", "flip", "flip", "turn"])
    if word == "bare":
        return ("bare",)
    mating = random_mating(chance.random(), web)
    if chance.random() < 0.6:
        mating = near_own(web, painting, chance.random())
    if word == "turn":
        return ("turn", mating)
    quiet = [at for at, (name, _) in enumerate(plain_clusters(web, painting, mating)) if name == "quiet"]
    return ("flip", mating, tuple(at for at in quiet if chance.random() < 0.5))
