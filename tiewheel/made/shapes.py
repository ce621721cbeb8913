"""Shapes of webs: boards, tubes, tori, kleins, bands, fans; what is made by them.

Within this file a join is (hand, other hand, turn): a way, and of the labels that are made what is
gone from the one to the other. A turn is (sign, across, down): x goes to sign times x, so many times
across and so many times down further, by rest of size.
"""

from tiewheel.paintings.paintings import HAND_BITS, is_marked
from tiewheel.products.perms import MOST_SIZE, undone
from tiewheel.webs.errors import NoNumber, NoShape
from tiewheel.webs.helper import is_below, is_whole
from tiewheel.webs.webs import HANDS, MOST_POSTS

BOARD = "board"
TUBE = "tube"
TORUS = "torus"
KLEIN = "klein"
BAND = "band"
FAN = "fan"
SHAPES = ("band", "board", "fan", "klein", "torus", "tube")
# The hands of a post of rows and columns, and of fans.
UP = 0
RIGHT = 1
DOWN = 2
LEFT = 3
IN_A = 0
IN_B = 1
OUT_A = 2
OUT_B = 3
STAY = (1, 0, 0)
ACROSS = (1, 1, 0)


def is_shape(thing):
    """Whether a thing is a shape."""
    if not isinstance(thing, tuple) or not 3 <= len(thing) <= 4 or thing[0] not in SHAPES:
        return False
    if not all([is_whole(part) for part in thing[1:]]) or len(thing) != (4 if thing[0] == TORUS else 3):
        return False
    word, one, other = thing[:3]
    if one < 1 or other < 1 or one * other * (other if word == FAN else 1) > MOST_POSTS:
        return False
    if word == TUBE:
        return other % 2 == 0
    if word == TORUS:
        return other % 2 == 0 and 0 <= thing[3] < other and (one + thing[3]) % 2 == 0
    if word == KLEIN:
        return one % 2 == 0 and other % 2 == 0
    return word != BAND or (one + other) % 2 == 0


def need_shape(shape):
    """Refuses what is no shape."""
    if not is_shape(shape):
        raise NoShape("no shape")


def places_of(shape):
    """(row, column) of each post, of fans (a, b)."""
    word, one, other = shape[:3]
    if word == FAN:
        return [(a, b) for _ in range(one) for a in range(other) for b in range(other)]
    return [(row, column) for row in range(one) for column in range(other)]


def fan_joins(sectors, side):
    """The joins of a fan."""
    joins = []
    for sector in range(sectors):
        first = HANDS * sector * side * side
        behind = HANDS * ((sector + 1) % sectors) * side * side
        for a in range(side):
            for b in range(side):
                here = first + HANDS * (a * side + b)
                if a + 1 < side:
                    joins.append((here + OUT_A, here + HANDS * side + IN_A, STAY))
                if b + 1 < side:
                    joins.append((here + OUT_B, here + HANDS + IN_B, STAY))
        for at in range(side):
            joins.append((first + HANDS * at + IN_A, behind + HANDS * at * side + IN_B, STAY))
    return joins


def inner_joins(rows, columns):
    """The joins between posts that are beside one another in a row, or in a column."""
    joins = []
    for row in range(rows):
        for column in range(columns):
            here = HANDS * (row * columns + column)
            if column + 1 < columns:
                joins.append((here + RIGHT, here + HANDS + LEFT, STAY))
            if row + 1 < rows:
                joins.append((here + DOWN, here + HANDS * columns + UP, STAY))
    return joins


def joins_across(word, rows, columns):
    """The joins from the last post of a row to the first one of that row, or of another one in bands."""
    joins = []
    for row in range(rows):
        to = rows - 1 - row if word == BAND else row
        joins.append((HANDS * (row * columns + columns - 1) + RIGHT, HANDS * to * columns + LEFT, ACROSS))
    return joins


def joins_down(shape):
    """The joins from the last row of a torus, of a klein to its first one."""
    word, rows, columns = shape[:3]
    joins = []
    for column in range(columns):
        to = columns - 1 - column
        turn = (-1, 0, 1)
        if word == TORUS:
            around, to = divmod(column + shape[3], columns)
            turn = (1, around, 1)
        joins.append((HANDS * ((rows - 1) * columns + column) + DOWN, HANDS * to + UP, turn))
    return joins


def joins_of(shape):
    """All joins of a shape."""
    word, one, other = shape[:3]
    if word == FAN:
        return fan_joins(one, other)
    joins = inner_joins(one, other)
    if word != BOARD:
        joins.extend(joins_across(word, one, other))
    if word in (TORUS, KLEIN):
        joins.extend(joins_down(shape))
    return joins


def web_by(shape, joins):
    """The web of a shape, by its joins."""
    many = len(places_of(shape))
    left = {hand: True for hand in range(HANDS * many)}
    for hand, other, _ in joins:
        del left[hand]
        del left[other]
    ways = [(min(hand, other), max(hand, other)) for hand, other, _ in joins] + [(hand,) for hand in left]
    return (many, tuple(sorted(ways)))


def made_web(shape):
    """The web of a shape."""
    need_shape(shape)
    return web_by(shape, joins_of(shape))


def made_matings(shape):
    """(first, second): of boards those by which cells go round between posts."""
    need_shape(shape)
    first = tuple([(one + other) & 1 for one, other in places_of(shape)])
    return (first, tuple([1 - at for at in first]))


def painted_hands(word, row, column):
    """The two painted hands of a post in a row and a column."""
    even = (row + column) & 1 == 0
    if word in (TUBE, TORUS):
        return (UP, RIGHT) if even else (DOWN, LEFT)
    if word != BOARD or row == column:
        return (UP, DOWN)
    return (UP, LEFT) if even == (column > row) else (RIGHT, DOWN)


def made_painting(shape):
    """A painting of the web of a shape: not of fans, nor of boards of more rows than columns, or less."""
    need_shape(shape)
    word, one, other = shape[:3]
    if word == FAN or word == BOARD and one != other:
        raise NoShape("a shape that no painting is made of")
    pairs = [painted_hands(word, row, column) for row, column in places_of(shape)]
    marks = [HAND_BITS[hand] + HAND_BITS[further] for hand, further in pairs]
    return tuple([number for number, way in enumerate(made_web(shape)[1]) if is_marked(marks, way[0])])


def need_steps(word, size, across, down):
    """Refuses what is no size, and what can't be gone across, or down."""
    if not is_whole(size) or not 1 <= size <= MOST_SIZE:
        raise NoNumber(size)
    if not is_below(across, size):
        raise NoNumber(across)
    if not is_below(down, 1 if word in (TUBE, BAND) else size):
        raise NoNumber(down)


def made_labels(shape, *, size, across, down):
    """Labels of the web of a shape that cancel by both made matings: not of boards and fans."""
    need_shape(shape)
    if shape[0] in (BOARD, FAN):
        raise NoShape("a shape that no labels are made of")
    need_steps(shape[0], size, across, down)
    joins = joins_of(shape)
    told = {}
    for hand, other, (sign, around, below) in joins:
        label = tuple([(sign * x + around * across + below * down) % size for x in range(size)])
        if hand < other:
            told[(hand, other)] = label
        else:
            told[(other, hand)] = undone(label)
    ends = tuple(range(size))
    return tuple([told.get(way, ends) for way in web_by(shape, joins)[1]])
