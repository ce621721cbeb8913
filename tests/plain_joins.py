"""Plain tellings of webs sewn, opened and joined; they call nothing of the package."""

from random import Random

from plain_products import compose, undo
from support import is_strictly_rising, plain_ends, plain_painted_hands, web_of, whole_row


def plain_beside(one, other):
    return web_of(one[0] + other[0], list(one[1]) + [tuple(hand + 4 * one[0] for hand in way) for way in other[1]])


def plain_is_pairs(web, thing):
    if not isinstance(thing, tuple) or not all(whole_row(pair) and len(pair) == 2 for pair in thing):
        return False
    met = [end for pair in thing for end in pair]
    if not is_strictly_rising(thing) or not all(one < other for one, other in thing):
        return False
    return len(met) == len(set(met)) and all(end in plain_ends(web) for end in met)


def plain_sewn(web, pairs):
    met = {end for pair in pairs for end in pair}
    return web_of(web[0], [way for way in web[1] if len(way) == 2 or way[0] not in met] + list(pairs))


def plain_opened(web, ways):
    left = [way for at, way in enumerate(web[1]) if at not in ways]
    return web_of(web[0], left + [(hand,) for at in ways for hand in web[1][at]])


def plain_moved(web, other, painting):
    """The painting of another web of the same posts in which the same hands are painted; None where there is none."""
    hands = plain_painted_hands(web, painting)
    told = tuple(at for at, way in enumerate(other[1]) if way[0] in hands)
    return told if plain_painted_hands(other, told) == hands else None


def plain_sewn_labels(web, labels, pairs):
    table = dict(zip(web[1], labels))
    for one, other in pairs:
        table[(one, other)] = compose(undo(table[(one,)]), table[(other,)])
    return tuple(table[way] for way in plain_sewn(web, pairs)[1])


def plain_opened_labels(web, labels, ways):
    table = dict(zip(web[1], labels))
    for at in ways:
        one, other = web[1][at]
        table[(one,)], table[(other,)] = tuple(range(len(labels[0]))), labels[at]
    return tuple(table[way] for way in plain_opened(web, ways)[1])


def chance_pairs(web, seed, most=None):
    """Pairs of ends of chance, rising."""
    chance = Random(seed)
    ends = list(plain_ends(web))
    chance.shuffle(ends)
    many = chance.randint(0, len(ends) // 2 if most is None else min(most, len(ends) // 2))
    return tuple(sorted(tuple(sorted(ends[2 * at:2 * at + 2])) for at in range(many)))


def alike_pairs(web, painting, seed):
    """Pairs of chance of ends that are both painted or both bare."""
    chance = Random(seed)
    hands = plain_painted_hands(web, painting)
    pairs = []
    for shade in (True, False):
        ends = [end for end in plain_ends(web) if (end in hands) == shade]
        chance.shuffle(ends)
        many = chance.randint(0, len(ends) // 2)
        pairs += [tuple(sorted(ends[2 * at:2 * at + 2])) for at in range(many)]
    return tuple(sorted(pairs))
