"""Parts of a web: posts between which ways lead."""

from tiewheel.webs.errors import NoNumber
from tiewheel.webs.helper import is_whole
from tiewheel.webs.webs import HANDS, need_web


def first_parts(beyond, most):
    """So many parts, or all where there are less: rising rows of posts, in the order of their least ones.

    Beyond has the hands across.
    """
    met = [False] * (len(beyond) // HANDS)
    rows = []
    for first in range(len(met)):
        if len(rows) == most:
            break
        if not met[first]:
            rows.append(tuple(sorted(posts_from(beyond, met, first))))
    return tuple(rows)


def posts_from(beyond, met, first):
    """The posts to which ways lead from the first one, it too; they are noted as met."""
    met[first] = True
    posts = [first]
    at = 0
    while at < len(posts):
        hand = HANDS * posts[at]
        for other in beyond[hand:hand + HANDS]:
            if other is not None and not met[other // HANDS]:
                met[other // HANDS] = True
                posts.append(other // HANDS)
        at += 1
    return posts


def ways_in(web, posts):
    """The numbers of the ways that have hands at these posts of a part."""
    if len(posts) == web[0]:
        return tuple(range(len(web[1])))
    inside = [False] * web[0]
    for post in posts:
        inside[post] = True
    return tuple([number for number, way in enumerate(web[1]) if inside[way[0] // HANDS]])


def parts_of(web):
    """The parts of a web, each a row of posts."""
    return first_parts(need_web(web), web[0])


def part_web(web, number):
    """The web of the part so numbered, its posts numbered anew."""
    posts = needed_part(web, number)
    if len(posts) == web[0]:
        return (web[0], web[1])
    hands = [0] * (HANDS * web[0])
    for at, post in enumerate(posts):
        for side in range(HANDS):
            hands[HANDS * post + side] = HANDS * at + side
    ways = [web[1][way] for way in ways_in(web, posts)]
    return (
        len(posts),
        tuple([(hands[way[0]], hands[way[1]]) if len(way) == 2 else (hands[way[0]],) for way in ways]),
    )


def part_ways(web, number):
    """The numbers of the web's ways that are the part's, in order."""
    return ways_in(web, needed_part(web, number))


def needed_part(web, number):
    """The posts of the part so numbered."""
    beyond = need_web(web)
    if not is_whole(number) or number < 0:
        raise NoNumber(number)
    rows = first_parts(beyond, number + 1)
    if number >= len(rows):
        raise NoNumber(number)
    return rows[number]
