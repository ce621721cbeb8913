"""Shapes told plainly, join by join, and wheels to try things on; nothing here calls the package."""

from random import Random

from plain_deeds import plain_behind
from support import (
    EMPTY, SMALL_WEBS, plain_ends, plain_own, plain_painted_ends, plain_paintings, plain_strands, random_web, web_of,
)

UP, RIGHT, DOWN, LEFT = range(4)


def joined_web(many, joins):
    met = [hand for join in joins for hand in join]
    assert len(met) == len(set(met))
    return web_of(many, list(joins) + [(hand,) for hand in range(4 * many) if hand not in met])


def plain_grid(word, rows, columns, shift=0):
    """What is joined in the five shapes of rows and columns."""
    def hand(row, column, side):
        return 4 * (row * columns + column) + side

    joins = [(hand(r, c, RIGHT), hand(r, c + 1, LEFT)) for r in range(rows) for c in range(columns - 1)]
    joins += [(hand(r, c, DOWN), hand(r + 1, c, UP)) for r in range(rows - 1) for c in range(columns)]
    last = columns - 1
    if word in ("tube", "torus", "klein"):
        joins += [(hand(r, last, RIGHT), hand(r, 0, LEFT)) for r in range(rows)]
    if word == "torus":
        joins += [(hand(rows - 1, c, DOWN), hand(0, (c + shift) % columns, UP)) for c in range(columns)]
    if word == "klein":
        joins += [(hand(rows - 1, c, DOWN), hand(0, last - c, UP)) for c in range(columns)]
    if word == "band":
        joins += [(hand(r, last, RIGHT), hand(rows - 1 - r, 0, LEFT)) for r in range(rows)]
    return joined_web(rows * columns, joins)


def plain_fan(sectors, side):
    """Hands in by a, in by b, out by a, out by b."""
    def hand(sector, a, b, at):
        return 4 * ((sector * side + a) * side + b) + at

    joins = []
    for sector in range(sectors):
        behind = (sector + 1) % sectors
        for one in range(side):
            for other in range(side - 1):
                joins.append((hand(sector, other, one, 2), hand(sector, other + 1, one, 0)))
                joins.append((hand(sector, one, other, 3), hand(sector, one, other + 1, 1)))
            joins.append((hand(sector, 0, one, 0), hand(behind, one, 0, 1)))
    return joined_web(sectors * side * side, joins)


def plain_shape(shape):
    return plain_fan(*shape[1:]) if shape[0] == "fan" else plain_grid(*shape)


def plain_made_matings(shape):
    word, one, other = shape[:3]
    if word == "fan":
        sums = [a + b for _ in range(one) for a in range(other) for b in range(other)]
    else:
        sums = [r + c for r in range(one) for c in range(other)]
    return tuple(at % 2 for at in sums), tuple(1 - at % 2 for at in sums)


def plain_bar(web, first, second):
    for which, mating in enumerate((first, second)):
        for number, row in enumerate(plain_strands(web, mating)):
            ways = len(row) // 2 + (1 if row[0] in plain_ends(web) else 0)
            if ways > (3 if row[0] in plain_ends(web) else 4):
                return (which, number)
    return None


def plain_over(web, mating, end):
    row = [row for row in plain_strands(web, mating) if end in row][0]
    return row[0] + row[-1] - end


def plain_rims(web, first, second):
    rims = []
    for start in plain_ends(web):
        if not any(start in rim for rim in rims):
            rim, end = [start], plain_over(web, first, start)
            while end != start:
                rim.append(end)
                end = plain_over(web, second if len(rim) % 2 == 0 else first, end)
                if len(rim) > 1000:
                    raise AssertionError(web)
            rims.append(tuple(rim))
    return tuple(sorted(rims))


def plain_is_by_turns(web, first, second, painting):
    painted = plain_painted_ends(web, painting)
    return all((end in painted) != (plain_over(web, mating, end) in painted)
               for mating in (first, second) for end in plain_ends(web))


def plain_turns(web, first, second, painting, turns, begin=0):
    for at in range(turns):
        painting = plain_behind(web, painting, ("turn", (first, second)[(at + begin) % 2]))
    return painting


SHAPES = [
    ("board", 1, 1), ("board", 1, 2), ("board", 2, 2), ("board", 2, 3), ("board", 3, 3), ("tube", 1, 2), ("tube", 2, 2),
    ("tube", 3, 2), ("tube", 2, 4), ("torus", 2, 2, 0), ("torus", 1, 2, 1), ("torus", 2, 4, 2), ("torus", 3, 2, 1),
    ("klein", 2, 2), ("klein", 2, 4), ("band", 1, 1), ("band", 1, 3), ("band", 2, 2), ("band", 3, 3), ("band", 2, 4),
    ("fan", 1, 1), ("fan", 1, 2), ("fan", 2, 1), ("fan", 3, 1), ("fan", 4, 1), ("fan", 2, 2), ("fan", 4, 2),
]


def shape_wheels():
    return [(plain_shape(shape), *plain_made_matings(shape)) for shape in SHAPES]


def ended_web(seed):
    """A web of few posts half the hands of which lead out, or more: so its borders may be short."""
    chance = Random(seed)
    many = chance.randint(2, 5)
    hands = list(range(4 * many))
    chance.shuffle(hands)
    joined = 2 * chance.randint(1, many)
    return web_of(many, [tuple(sorted(hands[at:at + 2])) for at in range(0, joined, 2)] + [(hand,) for hand in hands[joined:]])


def chance_wheels(many=120):
    """Wheels among small webs with two matings of chance."""
    found = [(EMPTY, (), ())]
    chance = Random(5)
    webs = SMALL_WEBS + [random_web(seed, 6, 16) for seed in range(300, 340)] + [ended_web(seed) for seed in range(60)]
    while len(found) < many:
        web = chance.choice(webs)
        first, second = (tuple(chance.randint(0, 2) for _ in range(web[0])) for _ in range(2))
        if plain_bar(web, first, second) is None:
            found.append((web, first, second))
    return found


def wheels_by_turns(many=60):
    """(web, first, second, painting) of wheels with ends by turns."""
    found = []
    for web, first, second in shape_wheels() + chance_wheels(many):
        if web[0] <= 6:
            rows = [row for row in plain_paintings(web) if plain_is_by_turns(web, first, second, row)]
            found += [(web, first, second, row) for row in rows[:2] + rows[-2:]]
    return found


def plain_made_painting(shape):
    """Of each post its two painted hands, as the document tells them."""
    word, rows, columns = shape[:3]
    web = plain_shape(shape)
    hands = []
    for r in range(rows):
        for c in range(columns):
            even = (r + c) % 2 == 0
            if word == "board":
                if r == c:
                    pair = (UP, DOWN)
                elif (even and c > r) or (not even and c < r):
                    pair = (UP, LEFT)
                else:
                    pair = (RIGHT, DOWN)
            elif word in ("tube", "torus"):
                pair = (UP, RIGHT) if even else (DOWN, LEFT)
            else:
                pair = (UP, DOWN)
            hands += [4 * (r * columns + c) + side for side in pair]
    return tuple(number for number, way in enumerate(web[1]) if way[0] in hands)
