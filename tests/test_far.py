"""[30], [31] as far as wheels: ties and products behind so many turns, beats."""

import unittest
from functools import lru_cache

from plain_deeds import is_tie, plain_lines
from plain_products import chance_labels, plain_cells, plain_closed, plain_product, is_unit
from plain_shapes import (
    chance_wheels, plain_made_matings, plain_made_painting, plain_shape, plain_turns, shape_wheels, wheels_by_turns,
)
from support import (
    ANYTHING, EIGHT, EMPTY, LONG, LOOP_AND_ENDS, STAR, beside, plain_ends, plain_paintings, plain_strands,
)
from tiewheel.products.labels import pinned
from tiewheel.webs.errors import NoEnds, NoHand, NoLabels, NoMating, NoNumber, NoPainting, NoWeb, NoWheel
from tiewheel.wheels.far import beats_of, products_behind, tied_behind, ties_behind

LARGE = [("board", 5, 5), ("board", 7, 7), ("tube", 6, 10), ("tube", 2, 30), ("tube", 15, 4), ("board", 4, 4)]


@lru_cache(maxsize=None)
def small_wheels():
    """Of those without ends just a few."""
    rows = wheels_by_turns(400)
    return [row for row in rows if plain_ends(row[0])] + [row for row in rows if not plain_ends(row[0])][::9]


def large_wheels():
    return [(plain_shape(shape), *plain_made_matings(shape), plain_made_painting(shape)) for shape in LARGE]


def plain_ties(web, painting):
    return tuple(sorted((kind, row[0], row[-1]) for kind, row in plain_lines(web, painting) if is_tie(web, row)))


def plain_tie_products(web, painting, labels):
    rows = {(kind, row[0]): row for kind, row in plain_lines(web, painting) if is_tie(web, row)}
    return tuple(plain_product(web, labels, rows[(kind, one)]) for kind, one, _ in plain_ties(web, painting))


def cancelling(web, first, second, size, seed):
    """Labels that cancel by both matings: closed again and again by the one and by the other, else pinned."""
    labels = chance_labels(web, size, seed)
    for at in range(6):
        labels = plain_closed(web, (first, second)[at % 2], labels)
        if all(is_unit(plain_product(web, labels, row)) for mating in (first, second) for _, row in plain_cells(web, mating)):
            return labels
    labels = pinned(web, chance_labels((web[0], ((),) * web[0]), size, seed))
    # No cell has an end, so ends may have any labels besides.
    ends = chance_labels(web, size, seed + 1)
    return tuple(end if len(way) == 1 else label for way, label, end in zip(web[1], labels, ends))


class TestTies(unittest.TestCase):
    def test_by_hand(self):
        # Rim 0, 1, 3, 2: 0 and 3 stand at even places.
        self.assertEqual(ties_behind(STAR, (0,), (2,), (0, 3), 0), (("bare", 1, 2), ("painted", 0, 3)))
        self.assertEqual(ties_behind(STAR, (0,), (2,), (0, 3), 1), (("bare", 1, 2), ("painted", 0, 3)))
        self.assertEqual(tied_behind(STAR, (0,), (2,), (0, 3), 1, 10 ** 30), ("bare", 2))
        self.assertEqual(ties_behind(EMPTY, (), (), (), 5), ())
        self.assertEqual(ties_behind(EIGHT, (0,), (1,), (0,), 10 ** 30), ())

    def test_against_turns_one_by_one(self):
        moved = 0
        for web, first, second, painting in small_wheels():
            for begin in (0, 1):
                for turns in range(13):
                    wanted = plain_ties(web, plain_turns(web, first, second, painting, turns, begin))
                    self.assertEqual(ties_behind(web, first, second, painting, turns, begin=begin), wanted)
                    moved += wanted != plain_ties(web, painting)
                    for kind, one, other in wanted[:3]:
                        for end, to in ((one, other), (other, one)):
                            told = tied_behind(web, first, second, painting, end, turns, begin=begin)
                            self.assertEqual(told, (kind, to))
        self.assertGreater(moved, 80)

    def test_of_large_wheels(self):
        for web, first, second, painting in large_wheels():
            here = painting
            for turns in range(13):
                self.assertEqual(ties_behind(web, first, second, painting, turns), plain_ties(web, here))
                here = plain_turns(web, first, second, here, 1, turns % 2)

    def test_so_many_and_more_turns_behind_one_another(self):
        for web, first, second, painting in small_wheels()[::2] + large_wheels()[:2]:
            for turns in (1, 2, 5):
                here = plain_turns(web, first, second, painting, turns, 1)
                for more in (1, 4, 10 ** 29 + 3, 10 ** 30 - 5):
                    self.assertEqual(ties_behind(web, first, second, painting, turns + more, begin=1),
                                     ties_behind(web, first, second, here, more, begin=(1 + turns) % 2))


class TestProducts(unittest.TestCase):
    def test_against_turns_one_by_one(self):
        told_unlike = 0
        for seed, (web, first, second, painting) in enumerate(small_wheels()):
            if not web[1]:
                continue
            labels = cancelling(web, first, second, 1 + seed % 5, seed)
            for begin in (0, 1):
                for turns in range(13 if seed % 3 == 0 else 5):
                    here = plain_turns(web, first, second, painting, turns, begin)
                    wanted = plain_tie_products(web, here, labels)
                    self.assertEqual(products_behind(web, first, second, painting, labels, turns, begin=begin), wanted)
                    told_unlike += wanted != plain_tie_products(web, painting, labels)
        self.assertGreater(told_unlike, 25)

    def test_of_large_wheels(self):
        for seed, (web, first, second, painting) in enumerate(large_wheels()):
            labels = cancelling(web, first, second, 5, seed)
            self.assertGreater(len(set(plain_tie_products(web, painting, labels))), 3)
            here = painting
            for turns in range(8):
                self.assertEqual(products_behind(web, first, second, painting, labels, turns),
                                 plain_tie_products(web, here, labels))
                here = plain_turns(web, first, second, here, 1, turns % 2)

    def test_so_many_and_more_turns_behind_one_another(self):
        for seed, (web, first, second, painting) in enumerate(small_wheels()[::2] + large_wheels()[:2]):
            labels = cancelling(web, first, second, 4, seed) if web[1] else ()
            for turns in (1, 2, 5):
                here = plain_turns(web, first, second, painting, turns)
                for more in (3, 10 ** 29 + 3, 10 ** 30 - 5):
                    self.assertEqual(products_behind(web, first, second, painting, labels, turns + more),
                                     products_behind(web, first, second, here, labels, more, begin=turns % 2))

    def test_borders_whose_products_do_not_commute(self):
        # A rim of four borders with labels on ends: what is gone round is a cycle of three.
        labels = ((1, 0, 2), (0, 1, 2), (1, 2, 0), (0, 2, 1))
        for turns in (1, 2, 3, 4, 5, 8, 12):
            here = plain_turns(STAR, (0,), (2,), (0, 3), turns)
            self.assertEqual(products_behind(STAR, (0,), (2,), (0, 3), labels, turns), plain_tie_products(STAR, here, labels))

    def test_no_labels(self):
        web, (first, second) = plain_shape(("board", 2, 2)), plain_made_matings(("board", 2, 2))
        painting = plain_made_painting(("board", 2, 2))
        good = ((0, 1),) * len(web[1])
        self.assertEqual(len(products_behind(web, first, second, painting, good, 1)), 4)
        refused = set()
        for at in range(len(web[1])):
            labels = good[:at] + ((1, 0),) + good[at + 1:]
            bars = [at for at, mating in enumerate((first, second)) for _, row in plain_cells(web, mating)
                    if not is_unit(plain_product(web, labels, row))]
            if bars:
                with self.assertRaises(NoLabels):
                    products_behind(web, first, second, painting, labels, None)
                refused.add(tuple(bars))
            else:
                products_behind(web, first, second, painting, labels, 3)
        self.assertTrue(refused)
        # The one cell is of one of both matings alone.
        self.assertEqual(len(plain_cells(web, second)) + len(plain_cells(web, first)), 1)
        with self.assertRaises(NoLabels):
            products_behind(web, second, first, painting, good[:-1] + ((0, 1, 2),), 1)
        for at in range(len(web[1])):
            labels = good[:at] + ((1, 0),) + good[at + 1:]
            for one, other in ((first, second), (second, first)):
                bars = [row for mating in (one, other) for _, row in plain_cells(web, mating)
                        if not is_unit(plain_product(web, labels, row))]
                if bars:
                    with self.assertRaises(NoLabels):
                        products_behind(web, one, other, painting, labels, 1)
        for thing in ANYTHING:
            with self.assertRaises(NoLabels):
                products_behind(web, first, second, painting, thing, None, begin=None)


class TestBeats(unittest.TestCase):
    def test_against_a_plain_look(self):
        met = set()
        for web, first, second, painting in small_wheels() + large_wheels():
            beats = beats_of(web, first, second, painting)
            ties = plain_ties(web, painting)
            back = [many for many in range(1, 3 * beats + 1) if ties_behind(web, first, second, painting, 2 * many) == ties]
            self.assertEqual(back, [beats, 2 * beats, 3 * beats])
            self.assertEqual(ties_behind(web, first, second, painting, 10 ** 30 - 10 ** 30 % (2 * beats)), ties)
            met.add(beats)
            if not plain_ends(web):
                self.assertEqual(repr(beats), "1")
        self.assertTrue({1, 2, 4, 5, 7} <= met, met)

    def test_of_rims_of_many_sizes(self):
        # Boards beside one another: their beats have one least common multiple.
        shapes = [("board", 3, 3), ("board", 4, 4), ("board", 5, 5), ("board", 1, 1)]
        webs = [plain_shape(shape) for shape in shapes]
        firsts, seconds = zip(*[plain_made_matings(shape) for shape in shapes])
        painting, ahead = [], 0
        for web, shape in zip(webs, shapes):
            hands = {4 * ahead + hand for at in plain_made_painting(shape) for hand in web[1][at]}
            painting += hands
            ahead += web[0]
        whole = beside(*webs)
        painted = tuple(at for at, way in enumerate(whole[1]) if way[0] in painting)
        told = beats_of(whole, sum(firsts, ()), sum(seconds, ()), painted)
        self.assertEqual(told, 3 * 4 * 5)


class TestRefusals(unittest.TestCase):
    ASKS = ((ties_behind, 0), (tied_behind, 1), (products_behind, 2), (beats_of, 3))

    def ask(self, which, web, first, second, painting, *, hand=0, labels=(), turns=1, begin=0):
        more = [(turns,), (hand, turns), (labels, turns), ()][which]
        named = {} if which == 3 else {"begin": begin}
        return self.ASKS[which][0](web, first, second, painting, *more, **named)

    def test_order(self):
        wrong = {"hand": None, "labels": None, "turns": None, "begin": None}
        long = (2,) * 60
        for which in range(4):
            with self.assertRaises(NoWeb):
                self.ask(which, None, None, None, None, **wrong)
            with self.assertRaises(NoMating):
                self.ask(which, STAR, (3,), None, None, **wrong)
            with self.assertRaises(NoMating):
                self.ask(which, LONG, long, None, None, **wrong)
            with self.assertRaises(NoWheel):
                self.ask(which, LONG, long, long, None, **wrong)
            with self.assertRaises(NoWheel):
                self.ask(which, LONG, (0,) * 60, long, (0,), **wrong)
            with self.assertRaises(NoPainting):
                self.ask(which, STAR, (0,), (2,), (0,), **wrong)
            for painting in ((0, 1), (0, 2), (1, 3)):
                with self.assertRaises(NoEnds):
                    self.ask(which, STAR, (0,), (2,), painting, **wrong)
        with self.assertRaises(NoHand):
            self.ask(1, STAR, (0,), (2,), (0, 3), **wrong)
        with self.assertRaises(NoEnds):
            self.ask(1, *self.two_parts(), hand=4, turns=None)
        with self.assertRaises(NoLabels):
            self.ask(2, STAR, (0,), (2,), (0, 3), **wrong)

    def two_parts(self):
        """A star by turns beside two loops."""
        web = beside(STAR, EIGHT)
        return web, (0, 0), (2, 1), (0, 3, 4)

    def test_by_turns_by_just_one_of_both(self):
        for painting in plain_paintings(STAR):
            for first, second in (((0,), (2,)), ((2,), (0,)), ((0,), (1,))):
                fits = all((row[0] in painting) != (row[-1] in painting)
                           for mating in (first, second) for row in plain_strands(STAR, mating))
                if fits:
                    self.assertEqual(len(ties_behind(STAR, first, second, painting, 3)), 2)
                else:
                    with self.assertRaises(NoEnds):
                        ties_behind(STAR, first, second, painting, 3)

    def test_numbers(self):
        labels = ((0,),) * 4
        for turns in (-1, 10 ** 30 + 1, True, False, None, "1", (), 10 ** 39):
            for which in range(3):
                with self.assertRaises(NoNumber) as caught:
                    self.ask(which, STAR, (0,), (2,), (0, 3), labels=labels, turns=turns, begin=5)
                self.assertIs(caught.exception.number, turns)
        for begin in (2, -1, True, False, None, "0", (0,)):
            for which in range(3):
                with self.assertRaises(NoNumber) as caught:
                    self.ask(which, STAR, (0,), (2,), (0, 3), labels=labels, begin=begin)
                self.assertIs(caught.exception.number, begin)
        for hand in (-1, 4, True, None, "0"):
            with self.assertRaises(NoHand) as caught:
                self.ask(1, STAR, (0,), (2,), (0, 3), hand=hand, turns=None)
            self.assertIs(caught.exception.hand, hand)

    def test_no_end(self):
        web, first, second, painting = self.two_parts()
        for hand in (4, 5, 6, 7):
            with self.assertRaises(NoEnds):
                tied_behind(web, first, second, painting, hand, 1)

    def test_wheels_without_ends_and_posts(self):
        for web, first, second in shape_wheels() + chance_wheels(20):
            if not plain_ends(web):
                painting = plain_paintings(web)[0] if web[0] <= 4 else None
                if painting is not None:
                    self.assertEqual(ties_behind(web, first, second, painting, 10 ** 30), ())
                    labels = ((0,),) * len(web[1])
                    self.assertEqual(products_behind(web, first, second, painting, labels, 10 ** 30), ())
                    self.assertEqual(beats_of(web, first, second, painting), 1)
        self.assertEqual(products_behind(EMPTY, (), (), (), (), 3), ())
        with self.assertRaises(NoEnds):
            ties_behind(LOOP_AND_ENDS, (0,), (0,), (0,), 1)


if __name__ == "__main__":
    unittest.main()
