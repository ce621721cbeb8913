"""Parts of a web: posts between which ways lead."""

from tiewheel.webs.helper import groups
from tiewheel.webs.webs import HANDS, need_number, need_web


def part_rows(web):
    """The parts: rising rows of posts, in the order of their least ones."""
    many, ways = web
    return groups(many, [(way[0] // HANDS, way[1] // HANDS) for way in ways if len(way) == 2])


def ways_in(web, posts):
    """The numbers of the ways that have hands at these posts of a part."""
    inside = [False] * web[0]
    for post in posts:
        inside[post] = True
    return tuple([number for number, way in enumerate(web[1]) if inside[way[0] // HANDS]])


def parts_of(web):
    """The parts of a web, each a row of posts."""
    need_web(web)
    return part_rows(web)


def part_web(web, number):
    """The web of the part so numbered, its posts numbered anew."""
    posts = needed_part(web, number)
    moved = [0] * web[0]
    for at, post in enumerate(posts):
        moved[post] = HANDS * (at - post)
    ways = [web[1][way] for way in ways_in(web, posts)]
    return (len(posts), tuple([renumbered(way, moved) for way in ways]))


def renumbered(way, moved):
    """A way whose hands are renumbered, for each post by as much as is told."""
    return tuple([hand + moved[hand // HANDS] for hand in way])


def part_ways(web, number):
    """The numbers of the web's ways that are the part's, in order."""
    return ways_in(web, needed_part(web, number))


def needed_part(web, number):
    """The posts of the part so numbered."""
    need_web(web)
    rows = part_rows(web)
    need_number(number, len(rows))
    return rows[number]
