"""[36], [37]: shapes, made webs, matings, paintings, labels."""

import unittest

from plain_deeds import plain_lines
from plain_products import plain_cells, plain_product, is_unit
from plain_shapes import (
    plain_bar, plain_is_by_turns, plain_made_matings, plain_made_painting, plain_shape,
)
from support import (
    ANYTHING, EIGHT, STAR, plain_across, plain_ends, plain_is_mating, plain_is_painting, plain_is_web, plain_strands, spoiled,
)
from tiewheel.made.shapes import SHAPES, is_shape, made_labels, made_matings, made_painting, made_web
from tiewheel.webs.errors import NoNumber, NoShape

WORDS = ("band", "board", "fan", "klein", "torus", "tube")


def plain_is_shape(thing):
    if not isinstance(thing, tuple) or len(thing) < 1 or not isinstance(thing[0], str) or thing[0] not in WORDS:
        return False
    word, numbers = thing[0], thing[1:]
    if len(numbers) != (3 if word == "torus" else 2) or not all(type(part) is int for part in numbers):
        return False
    one, other = numbers[:2]
    if one < 1 or other < 1 or one * other * (other if word == "fan" else 1) > 60:
        return False
    return {
        "board": True, "fan": True, "tube": other % 2 == 0, "klein": one % 2 == 0 and other % 2 == 0,
        "band": one % 2 == other % 2,
        "torus": word == "torus" and other % 2 == 0 and 0 <= numbers[-1] < other and (one + numbers[-1]) % 2 == 0,
    }[word]


def all_shapes():
    for word in WORDS:
        for one in range(1, 61):
            for other in range(1, 60 // one + 1):
                for rest in [(shift,) for shift in range(other)] if word == "torus" else [()]:
                    if plain_is_shape((word, one, other) + rest):
                        yield (word, one, other) + rest


SOME = list(all_shapes())[::5]
EDGES = [
    ("board", 1, 1), ("board", 7, 7), ("board", 1, 60), ("board", 60, 1), ("board", 6, 10), ("tube", 1, 2), ("tube", 30, 2),
    ("tube", 1, 60), ("torus", 1, 2, 1), ("torus", 2, 2, 0), ("torus", 1, 60, 59), ("torus", 30, 2, 0), ("torus", 6, 10, 8),
    ("klein", 2, 2), ("klein", 2, 30), ("klein", 30, 2), ("band", 1, 1), ("band", 1, 59), ("band", 59, 1), ("band", 2, 30),
    ("band", 7, 7), ("band", 30, 2), ("fan", 1, 1), ("fan", 60, 1), ("fan", 1, 7), ("fan", 4, 3), ("fan", 5, 3), ("fan", 15, 2),
]


class TestShapes(unittest.TestCase):
    def test_words(self):
        self.assertEqual(repr(SHAPES), repr(WORDS))

    def test_each_word_with_each_number_at_its_edges(self):
        right = 0
        for word in WORDS + ("Board", "", "boards", None):
            for one in (-1, 0, 1, 2, 3, 4, 7, 8, 15, 30, 31, 59, 60, 61, 10 ** 39):
                for other in (-2, 0, 1, 2, 3, 4, 5, 7, 8, 10, 30, 59, 60, 61, 62, 10 ** 39):
                    for rest in ((), (-1,), (0,), (1,), (2,), (other - 1,), (other,), (other + 1,), (0, 0)):
                        thing = (word, one, other) + rest
                        self.assertIs(is_shape(thing), plain_is_shape(thing), thing)
                        right += is_shape(thing)
        self.assertGreater(right, 100)

    def test_anything(self):
        things = ANYTHING + [thing for shape in EDGES[::3] for thing in spoiled(shape)]
        things += [("board", True, 2), ("board", 2, True), ["board", 2, 2], ("torus", 2, 2, False), ("torus", 2, 2, None),
                   ("torus", 2, 2), ("board",), ("board", 2), ("board", 2, 2, 2), ("board", "2", "2"), ("fan", (1,), 1)]
        for thing in things:
            wanted = plain_is_shape(thing)
            self.assertIs(is_shape(thing), wanted, thing)
            if not wanted:
                for ask in (made_web, made_matings, made_painting, lambda shape: made_labels(shape, size=None, across=None, down=None)):
                    with self.assertRaises(NoShape):
                        ask(thing)


class TestMade(unittest.TestCase):
    def test_webs_join_by_join(self):
        for shape in SOME + EDGES:
            told = made_web(shape)
            self.assertTrue(plain_is_web(told), shape)
            self.assertEqual(told, plain_shape(shape))

    def test_webs_by_hand(self):
        self.assertEqual(made_web(("board", 1, 1)), STAR)
        self.assertEqual(made_web(("fan", 1, 1)), (1, ((0, 1), (2,), (3,))))
        self.assertEqual(made_web(("band", 1, 1)), (1, ((0,), (1, 3), (2,))))
        self.assertEqual(made_web(("board", 1, 2)), (2, ((0,), (1, 7), (2,), (3,), (4,), (5,), (6,))))
        self.assertEqual(made_web(("tube", 1, 2)), (2, ((0,), (1, 7), (2,), (3, 5), (4,), (6,))))
        self.assertEqual(made_web(("torus", 1, 2, 1)), (2, ((0, 6), (1, 7), (2, 4), (3, 5))))
        self.assertEqual(made_web(("torus", 2, 2, 0)), (4, ((0, 10), (1, 7), (2, 8), (3, 5), (4, 14), (6, 12), (9, 15), (11, 13))))
        self.assertEqual(made_web(("klein", 2, 2)), (4, ((0, 14), (1, 7), (2, 8), (3, 5), (4, 10), (6, 12), (9, 15), (11, 13))))
        self.assertEqual(made_web(("band", 2, 2)), (4, ((0,), (1, 7), (2, 8), (3, 13), (4,), (5, 11), (6, 12), (9, 15), (10,), (14,))))
        self.assertEqual(made_web(("fan", 2, 1)), (2, ((0, 5), (1, 4), (2,), (3,), (6,), (7,))))
        self.assertEqual(made_web(("fan", 1, 2)), (4, (
            (0, 1), (2, 8), (3, 5), (4, 9), (6, 12), (7,), (10,), (11, 13), (14,), (15,),
        )))
        self.assertNotEqual(made_web(("torus", 1, 2, 1)), EIGHT)

    def test_matings_and_wheels(self):
        for shape in SOME + EDGES:
            web = made_web(shape)
            told = made_matings(shape)
            self.assertEqual(told, plain_made_matings(shape))
            self.assertTrue(all(plain_is_mating(web, mating) for mating in told))
            bar = plain_bar(web, *told)
            if shape[0] == "fan" and shape[1] > 4:
                # The middle cell alone: round about the corners by which sectors meet.
                long = [(which, number) for which, mating in enumerate(told) for number, row in plain_cells(web, mating)
                        if len(row) > 8]
                borders = [row for mating in told for row in plain_strands(web, mating) if row[0] in plain_ends(web)]
                self.assertEqual(long, [bar])
                self.assertTrue(all(len(row) <= 4 for row in borders))
                middle = {hand for sector in range(shape[1]) for hand in (4 * sector * shape[2] ** 2, 4 * sector * shape[2] ** 2 + 1)}
                self.assertEqual(set(plain_strands(web, told[bar[0]])[bar[1]]), middle)
            else:
                self.assertIsNone(bar, shape)

    def test_paintings(self):
        for shape in SOME + EDGES:
            if shape[0] == "fan" or (shape[0] == "board" and shape[1] != shape[2]):
                with self.assertRaises(NoShape):
                    made_painting(shape)
                continue
            web = made_web(shape)
            told = made_painting(shape)
            self.assertTrue(plain_is_painting(web, told), shape)
            self.assertEqual(told, plain_made_painting(shape))
            if shape[0] in ("board", "tube", "torus"):
                self.assertTrue(plain_is_by_turns(web, *plain_made_matings(shape), told), shape)
        self.assertEqual(made_painting(("board", 1, 1)), (0, 2))
        self.assertEqual(made_painting(("band", 1, 1)), (0, 2))

    def test_paintings_hand_by_hand(self):
        def hands(shape):
            return sorted(hand for at in made_painting(shape) for hand in made_web(shape)[1][at])

        # Up 0, right 1, down 2, left 3 of the posts 0 to 3.
        self.assertEqual(hands(("board", 2, 2)), [0, 2, 5, 6, 8, 11, 12, 14])
        self.assertEqual(hands(("tube", 2, 2)), [0, 1, 6, 7, 10, 11, 12, 13])
        self.assertEqual(hands(("torus", 2, 2, 0)), [0, 1, 6, 7, 10, 11, 12, 13])
        self.assertEqual(hands(("klein", 2, 2)), [0, 2, 4, 6, 8, 10, 12, 14])
        self.assertEqual(hands(("band", 2, 2)), [0, 2, 4, 6, 8, 10, 12, 14])
        self.assertEqual(hands(("board", 3, 3)), [0, 2, 5, 6, 8, 11, 12, 15, 16, 18, 21, 22, 25, 26, 28, 31, 32, 34])


def gone(shape, labels, hand):
    """What is gone along a hand's way from this hand on."""
    web = made_web(shape)
    other = plain_across(web)[hand]
    label = labels[web[1].index(tuple(sorted((hand, other))))]
    return label if hand < other else tuple(sorted(range(len(label)), key=lambda at: label[at]))


class TestLabels(unittest.TestCase):
    def test_hand_by_hand(self):
        for shape in [shape for shape in SOME + EDGES if shape[0] in ("tube", "torus", "klein", "band")]:
            word, rows, columns = shape[:3]
            for size, across, down in ((1, 0, 0), (3, 2, 1), (5, 1, 3), (4, 3, 0), (2, 0, 1)):
                down = 0 if word in ("tube", "band") else down
                labels = made_labels(shape, size=size, across=across, down=down)
                web = made_web(shape)
                self.assertEqual(len(labels), len(web[1]))
                plain = tuple(range(size))
                special = {}
                for row in range(rows):
                    special[4 * (row * columns + columns - 1) + 1] = tuple((x + across) % size for x in range(size))
                for column in range(columns if word in ("torus", "klein") else 0):
                    hand = 4 * ((rows - 1) * columns + column) + 2
                    if word == "torus":
                        more = across if column + shape[3] >= columns else 0
                        special[hand] = tuple((x + down + more) % size for x in range(size))
                    else:
                        special[hand] = tuple((down - x) % size for x in range(size))
                for hand, perm in special.items():
                    self.assertEqual(gone(shape, labels, hand), perm)
                wrapped = {tuple(sorted((hand, plain_across(web)[hand]))) for hand in special}
                for way, label in zip(web[1], labels):
                    if way not in wrapped:
                        self.assertEqual(label, plain)

    def test_labels_cancel_by_both_matings(self):
        for shape in [shape for shape in SOME[::3] + EDGES if shape[0] in ("tube", "torus", "klein", "band")]:
            web = made_web(shape)
            for size, across, down in ((5, 2, 3), (3, 1, 2), (4, 3, 3)):
                down = 0 if shape[0] in ("tube", "band") else down
                labels = made_labels(shape, size=size, across=across, down=down)
                for mating in plain_made_matings(shape):
                    for _, row in plain_cells(web, mating):
                        self.assertTrue(is_unit(plain_product(web, labels, row)), shape)

    def test_products_of_rings_round_about(self):
        shape = ("torus", 2, 2, 0)
        labels = made_labels(shape, size=5, across=2, down=1)
        rings = {plain_product(made_web(shape), labels, row) for _, row in plain_lines(made_web(shape), made_painting(shape))}
        self.assertNotEqual(rings, {(0, 1, 2, 3, 4)})

    def test_refusals(self):
        for shape in EDGES:
            if shape[0] in ("board", "fan"):
                with self.assertRaises(NoShape):
                    made_labels(shape, size=0, across=None, down=None)
        for size in (0, 6, -1, True, None, "3", (3,), 10 ** 39):
            with self.assertRaises(NoNumber) as caught:
                made_labels(("torus", 2, 2, 0), size=size, across=None, down=None)
            self.assertIs(caught.exception.number, size)
        for number in (-1, 3, True, False, None, "1", (), 10 ** 39):
            with self.assertRaises(NoNumber) as caught:
                made_labels(("torus", 2, 2, 0), size=3, across=number, down=None)
            self.assertIs(caught.exception.number, number)
            for shape in (("torus", 2, 2, 0), ("klein", 2, 2), ("tube", 2, 2), ("band", 2, 2)):
                with self.assertRaises(NoNumber) as caught:
                    made_labels(shape, size=3, across=2, down=number)
                self.assertIs(caught.exception.number, number)
        for word in ("tube", "band"):
            for down in (1, 2):
                with self.assertRaises(NoNumber) as caught:
                    made_labels((word, 2, 2), size=3, across=0, down=down)
                self.assertEqual(caught.exception.number, down)
        self.assertEqual(made_labels(("klein", 2, 2), down=1, across=0, size=2), made_labels(("klein", 2, 2), size=2, across=0, down=1))


if __name__ == "__main__":
    unittest.main()
