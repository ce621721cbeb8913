"""Webs, plain listings and things of any kind for the tests; nothing here calls the package."""

from functools import lru_cache
from itertools import combinations, product
from random import Random

PAIRINGS = (((0, 1), (2, 3)), ((0, 3), (1, 2)), ((0, 2), (1, 3)))


def rising(rows):
    return tuple(sorted(rows))


def web_of(many, ways):
    return (many, rising(tuple(sorted(way)) for way in ways))


def board(rows, columns):
    """Hands up, right, down, left; all that would lead beyond the board are ends."""
    ways = []
    for row in range(rows):
        for column in range(columns):
            first = 4 * (row * columns + column)
            if row == 0:
                ways.append((first,))
            if column == 0:
                ways.append((first + 3,))
            ways.append((first + 1, first + 7) if column + 1 < columns else (first + 1,))
            ways.append((first + 2, first + 4 * columns) if row + 1 < rows else (first + 2,))
    return web_of(rows * columns, ways)


def ladder(many):
    """Two ways from each post to the next, two ends at either side."""
    ways = [(0,), (1,), (4 * many - 2,), (4 * many - 1,)]
    for post in range(many - 1):
        ways += [(4 * post + 2, 4 * post + 4), (4 * post + 3, 4 * post + 5)]
    return web_of(many, ways)


def necklace(many):
    """Two ways from each post to the next, and from the last to the first."""
    ways = [(4 * post + side, (4 * post + side + 2) % (4 * many)) for post in range(many) for side in (2, 3)]
    return web_of(many, ways)


def beside(*webs):
    many, ways = 0, []
    for web in webs:
        ways += [tuple(hand + 4 * many for hand in way) for way in web[1]]
        many += web[0]
    return web_of(many, ways)


EMPTY = (0, ())
STAR = (1, ((0,), (1,), (2,), (3,)))
EIGHT = (1, ((0, 1), (2, 3)))
NESTED = (1, ((0, 3), (1, 2)))
LOOP_AND_ENDS = (1, ((0, 2), (1,), (3,)))
BOARD = board(2, 2)
FOUR_WAYS = (2, ((0, 4), (1, 5), (2, 6), (3, 7)))
APART = (4, ((0, 8), (1, 9), (2, 10), (3, 11), (4, 12), (5, 13), (6,), (7,), (14, 15)))
LONG = ladder(60)
ROUND = necklace(60)


def random_web(seed, most_posts=60, most_ends=12):
    chance = Random(seed)
    many = chance.randint(0, most_posts)
    hands = list(range(4 * many))
    chance.shuffle(hands)
    ends = 2 * chance.randint(0, min(most_ends, 4 * many) // 2)
    ways = [(hand,) for hand in hands[:ends]]
    ways += [(hands[at], hands[at + 1]) for at in range(ends, 4 * many, 2)]
    return web_of(many, ways)


def random_mating(seed, web):
    chance = Random(seed)
    return tuple(chance.randint(0, 2) for _ in range(web[0]))


SMALL_WEBS = [EMPTY, STAR, EIGHT, NESTED, LOOP_AND_ENDS, BOARD, FOUR_WAYS, APART, ladder(2), necklace(2), necklace(3)]
SMALL_WEBS += [random_web(seed, 3, 6) for seed in range(40)]
BIG_WEBS = [LONG, ROUND, board(6, 10)] + [random_web(seed) for seed in range(100, 112)]


def plain_is_web(thing):
    """As the document says it, one by one."""
    if repr(type(thing)) != repr(tuple) or len(thing) != 2:
        return False
    many, ways = thing
    if type(many) is not int or not 0 <= many <= 60 or type(ways) is not tuple:
        return False
    met = []
    for way in ways:
        if type(way) is not tuple or len(way) not in (1, 2) or any(type(hand) is not int for hand in way):
            return False
        if len(way) == 2 and way[0] >= way[1]:
            return False
        met += way
    return sorted(met) == list(range(4 * many)) and list(ways) == sorted(ways)


def plain_is_mating(web, thing):
    return whole_row(thing) and len(thing) == web[0] and all(0 <= part <= 2 for part in thing)


def plain_is_painting(web, thing):
    if not whole_row(thing) or not is_strictly_rising(thing) or not all(0 <= way < len(web[1]) for way in thing):
        return False
    posts = [hand // 4 for hand in plain_painted_hands(web, thing)]
    return all(posts.count(post) == 2 for post in range(web[0]))


def plain_ends(web):
    return tuple(way[0] for way in web[1] if len(way) == 1)


def plain_across(web):
    table = {}
    for way in web[1]:
        table[way[0]] = way[-1] if len(way) == 2 else None
        table[way[-1]] = way[0] if len(way) == 2 else None
    return table


def plain_way(web, hand):
    return [number for number, way in enumerate(web[1]) if hand in way][0]


def plain_mate(mating, hand):
    for pair in PAIRINGS[mating[hand // 4]]:
        if hand % 4 in pair:
            return hand - hand % 4 + sum(pair) - hand % 4
    raise AssertionError(hand)


def plain_matings(web):
    return list(product((0, 1, 2), repeat=web[0]))


@lru_cache(maxsize=None)
def plain_strands(web, mating):
    """Of all rows from all hands those that are told: borders from the lesser end, cells from the least hand."""
    across = plain_across(web)
    ends = plain_ends(web)
    told = set()
    for first in across:
        row = []
        hand = first
        while hand is not None and hand not in row:
            row += [hand, plain_mate(mating, hand)]
            hand = across[row[-1]]
        is_border = hand is None
        if is_border and first in ends and first < row[-1]:
            told.add(tuple(row))
        if not is_border and first == min(row):
            told.add(tuple(row))
    return rising(told)


@lru_cache(maxsize=None)
def plain_paintings(web):
    """All paintings, rising, post by post: each choice of two hands that agrees with those ahead of it."""
    across = plain_across(web)
    found = [{}]
    for post in range(web[0]):
        hands = range(4 * post, 4 * post + 4)
        then = []
        for painted in found:
            for pair in combinations(hands, 2):
                both = dict(painted)
                both.update({hand: hand in pair for hand in hands})
                if all(both.get(across[hand], both[hand]) == both[hand] for hand in hands):
                    then.append(both)
        found = then
    return rising(tuple(number for number, way in enumerate(web[1]) if row[way[0]]) for row in found)


def plain_painted_hands(web, painting):
    return sorted(hand for number in painting for hand in web[1][number])


def plain_own(web, painting):
    hands = plain_painted_hands(web, painting)
    own = []
    for post in range(web[0]):
        pair = tuple(hand % 4 for hand in hands if hand // 4 == post)
        own.append([at for at in range(3) if pair in PAIRINGS[at]][0])
    return tuple(own)


def plain_painted_ends(web, painting):
    return tuple(end for end in plain_ends(web) if end in plain_painted_hands(web, painting))


@lru_cache(maxsize=None)
def plain_corner_strands(web, mating, post):
    """The numbers of the strands of a post's two corners."""
    strands = plain_strands(web, mating)
    return [
        [number for number, row in enumerate(strands) if 4 * post + pair[0] in row][0]
        for pair in PAIRINGS[mating[post]]
    ]


def is_strictly_rising(row):
    return list(row) == sorted(set(row))


def whole_row(thing):
    return isinstance(thing, tuple) and all(isinstance(part, int) and not isinstance(part, bool) for part in thing)


def nested(many):
    thing = 1
    for at in range(many):
        thing = [(thing,), [thing], {"a": thing}][at % 3]
    return thing


ANYTHING = [
    None, True, False, 0, 1, 2, -1, -7, 7, 240, 10 ** 40 - 1, 1 - 10 ** 40,
    "", "0", "painted", "both ", "odd", "a\nb ~", (), [], {}, (0,), [0], {0: 1}, (True,), (False,), (None,), ("0",),
    ((),), ([],), [[]], ((), ()), (0, []), (0, {}), [0, ()], (False, ()), (True, ((0, 1), (2, 3))), (1, ()), (61, ()),
    (1, ((0, 1), [2, 3])), (1, [(0, 1), (2, 3)]), (1, ((False, True), (2, 3))), (1, ((0, 1), (3, 2))),
    (1, ((2, 3), (0, 1))), (1, ((0, 1), (1, 2), (3,))), (1, ((0, 1), (2,))), (1, ((0, 1, 2, 3),)), (1, ((), (0, 1), (2, 3))),
    (1, ((0, 1), (2, 3)), 0), (1, ((0, 1), (2, 3), (4,))), (1, ((-1, 0), (1, 2), (3,))), (-1, ()), (None, None),
    ("painting", None), ("painting", [0]), ("odd", None), ("odd", ()), ("odd", [0]), ("chain", ()), ("apart", None),
    ("none", ()), ("none", None), ("none", (((),), ())), ("painted", None), ("bare", (True, False)), ("odd", (10 ** 39,)),
    {"web": (1, ["0", {1: (2, [3])}])}, nested(11), nested(12), [None, (True, {"x": "y"})], (0, 1, 2), (2, 1, 0), (0, 0),
]


def spoiled(thing):
    """Things much like one, most of them wrong."""
    if isinstance(thing, bool) or thing is None:
        return [0, 1, (), "None"]
    if isinstance(thing, int):
        near = [thing + 1, thing - 1, thing + 1000, -thing - 1, str(thing), None, (thing,), [thing]]
        return near + ([bool(thing)] if thing in (0, 1) else [])
    if isinstance(thing, str):
        return [thing.upper(), "", thing + " ", thing[:-1], None, (thing,), 0]
    if isinstance(thing, (list, dict)):
        return [tuple(thing), None, (), 0, (thing,)]
    out = [list(thing), thing + (0,), thing + (None,), thing + ((),), (thing,), thing[::-1], dict(enumerate(thing))]
    for at, part in enumerate(thing):
        out.append(thing[:at] + thing[at + 1:])
        out.append(thing[:at] + (part, part) + thing[at + 1:])
        out += [thing[:at] + (other,) + thing[at + 1:] for other in spoiled(part)]
        if at:
            out.append(thing[:at - 1] + (part, thing[at - 1]) + thing[at + 1:])
    return out


def alike(one, other):
    """Equal throughout, a truth never being a number, a list never a tuple."""
    return repr(one) == repr(other)
