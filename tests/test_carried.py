"""[21]: products of borders, and what is carried to heirs."""

import unittest
from itertools import permutations
from random import Random

from plain_deeds import (
    MIDDLE_WEBS, chance_keeping_deed, chance_painting, is_tie, keeping_deeds, large_samples, middle_samples,
    plain_behind, plain_clusters, plain_lines, plain_loud, small_samples,
)
from plain_products import (
    chance_labels, is_unit, plain_by_borders, plain_carried, plain_cells, plain_closed, plain_cycles, plain_product,
)
from support import (
    ANYTHING, BIG_WEBS, EIGHT, EMPTY, LONG, LOOP_AND_ENDS, ROUND, SMALL_WEBS, STAR, ladder, plain_ends, plain_own,
    plain_strands, random_mating,
)
from tiewheel.products.carried import carried, over_product
from tiewheel.products.labels import pinned
from tiewheel.webs.errors import Loud, NoDeeds, NoEnds, NoHand, NoLabels, NoMating, NoPainting, NoWeb


def all_samples():
    return list(small_samples(2, 4)) + list(middle_samples(2)) + list(large_samples())


class TestOver(unittest.TestCase):
    def test_of_both_ends_of_each_border(self):
        borders = 0
        for at, (web, _, mating) in enumerate(all_samples()):
            labels = chance_labels(web, 1 + at % 5, at)
            for row in plain_strands(web, mating):
                if is_tie(web, row):
                    borders += 1
                    self.assertEqual(over_product(web, mating, labels, row[0]), plain_product(web, labels, row))
                    self.assertEqual(over_product(web, mating, labels, row[-1]), plain_product(web, labels, row[::-1]))
        self.assertGreater(borders, 200)

    def test_by_hand(self):
        labels = ((1, 2, 0), (0, 2, 1), (2, 1, 0), (0, 1, 2))
        # In by 0, out by 2: the label of 0, then the inverse of that of 2.
        self.assertEqual(over_product(STAR, (2,), labels, 0), tuple((2, 1, 0).index(x) for x in (1, 2, 0)))
        self.assertEqual(over_product(STAR, (2,), labels, 2), tuple((1, 2, 0).index(x) for x in (2, 1, 0)))

    def test_no_hand_then_no_end(self):
        labels = ((0, 1),) * 3
        for hand in (-1, 4, True, None, "0", (1,), [1], 10 ** 39):
            with self.assertRaises(NoHand) as caught:
                over_product(LOOP_AND_ENDS, (0,), labels, hand)
            self.assertIs(caught.exception.hand, hand)
        for hand in (0, 2):
            with self.assertRaises(NoEnds):
                over_product(LOOP_AND_ENDS, (0,), labels, hand)
        with self.assertRaises(NoHand):
            over_product(EMPTY, (), (), 0)
        with self.assertRaises(NoWeb):
            over_product(None, None, None, None)
        with self.assertRaises(NoMating):
            over_product(EIGHT, None, None, None)
        with self.assertRaises(NoLabels):
            over_product(EIGHT, (0,), None, None)


class TestCarried(unittest.TestCase):
    def test_what_is_walked_behind(self):
        met = set()
        for at, (web, painting, mating) in enumerate(all_samples()):
            labels = plain_closed(web, mating, chance_labels(web, 2 + at % 4, at))
            for deed in keeping_deeds(web, painting, mating, at):
                told = carried(web, painting, labels, deed)
                self.assertEqual(told, plain_carried(web, painting, labels, deed), (web, painting, labels, deed))
                if deed[0] != "bare":
                    self.assertEqual(told, plain_by_borders(web, painting, labels, deed))
                same = tuple(
                    plain_product(web, labels, row) if is_tie(web, row) else plain_cycles(plain_product(web, labels, row))
                    for _, row in plain_lines(web, painting)
                )
                met.add((deed[0], told == same))
                if deed[0] == "bare" or deed[1:] == (mating, ()):
                    self.assertEqual(told, same)
        self.assertTrue({("turn", False), ("flip", False), ("turn", True), ("flip", True), ("bare", True)} <= met, met)
        self.assertNotIn(("bare", False), met)

    def test_bare_lets_all_labels(self):
        for at, (web, painting, mating) in enumerate(all_samples()):
            labels = chance_labels(web, 3, at)
            told = tuple(
                plain_product(web, labels, row) if is_tie(web, row) else plain_cycles(plain_product(web, labels, row))
                for _, row in plain_lines(web, painting)
            )
            self.assertEqual(carried(web, painting, labels, ("bare",)), told)

    def test_by_rows_of_deeds_with_pinned_labels(self):
        # Pinned labels cancel by each mating: all ties have the unit for ever, all rings too.
        chance = Random(4)
        for web in [web for web in SMALL_WEBS + MIDDLE_WEBS if web[0]]:
            pins = tuple(tuple(chance.sample(range(3), 3)) for _ in range(web[0]))
            labels = pinned(web, pins)
            painting = chance_painting(web, 3)
            for _ in range(4):
                deed = chance_keeping_deed(web, painting, chance)
                told = carried(web, painting, labels, deed)
                self.assertEqual(told, plain_carried(web, painting, labels, deed))
                for (_, row), worth in zip(plain_lines(web, painting), told):
                    self.assertEqual(worth, (0, 1, 2) if is_tie(web, row) else (1, 1, 1))
                painting = plain_behind(web, painting, deed)

    def test_by_hand(self):
        # The tie 0-1 goes to 2-1 by the flip of the border 0-2: back along it, then the tie.
        labels = ((1, 2, 0), (0, 2, 1), (2, 1, 0), (1, 0, 2))
        self.assertEqual(plain_lines(STAR, (0, 1)), (("bare", (2, 3)), ("painted", (0, 1))))
        told = carried(STAR, (0, 1), labels, ("flip", (2,), (0,)))
        self.assertEqual(plain_lines(STAR, (1, 2)), (("bare", (0, 3)), ("painted", (1, 2))))
        self.assertEqual(told, (plain_product(STAR, labels, (0, 3)), plain_product(STAR, labels, (1, 2))))
        self.assertEqual(carried(EMPTY, (), (), ("turn", ())), ())
        self.assertEqual(carried(EIGHT, (0,), ((1, 0, 2), (0, 1, 2)), ("bare",)), ((1, 1, 1), (1, 2)))
        self.assertEqual(carried(EIGHT, (0,), ((1, 0, 2), (1, 0, 2)), ("turn", (1,))), ((1, 2), (1, 2)))

    def test_all_labels_of_one_post(self):
        for labels in permutations(list(permutations(range(3))), 3):
            for painting in ((0,), (1, 2)):
                for mating in ((0,), (1,)):
                    for deed in keeping_deeds(LOOP_AND_ENDS, painting, mating):
                        told = carried(LOOP_AND_ENDS, painting, labels, deed)
                        self.assertEqual(told, plain_carried(LOOP_AND_ENDS, painting, labels, deed))

    def test_sixty_posts(self):
        for web in (LONG, ROUND) + tuple(BIG_WEBS[3:5]):
            painting = chance_painting(web, 5)
            for seed in range(2):
                mating = random_mating(seed, web)
                labels = plain_closed(web, mating, chance_labels(web, 5, seed))
                for deed in keeping_deeds(web, painting, mating):
                    self.assertEqual(carried(web, painting, labels, deed), plain_carried(web, painting, labels, deed))


class TestRefusals(unittest.TestCase):
    def test_order(self):
        web, painting, mating = ladder(2), (0, 1, 4, 5), (2, 2)
        self.assertEqual(plain_loud(web, painting, mating), (0, 1))
        labels = ((0, 1),) * 6
        loud = ("flip", mating, (0, 1))
        with self.assertRaises(NoWeb):
            carried(None, None, None, None)
        with self.assertRaises(NoPainting):
            carried(web, None, None, None)
        for deed in (None, loud, ("bare",)):
            with self.assertRaises(NoLabels):
                carried(web, painting, None, deed)
        with self.assertRaises(NoDeeds):
            carried(web, painting, labels, None)
        with self.assertRaises(NoDeeds):
            carried(web, painting, labels, ("flip", mating, (0, 1, 2)))
        for flips, first in (((0, 1), 0), ((1,), 1)):
            with self.assertRaises(Loud) as caught:
                carried(web, painting, labels, ("flip", mating, flips))
            self.assertEqual(caught.exception.cluster, first)

    def test_loud_goes_ahead_of_labels_that_do_not_cancel(self):
        met = set()
        for at, (web, painting, mating) in enumerate(all_samples()):
            labels = chance_labels(web, 4, at)
            cancel = all(is_unit(plain_product(web, labels, row)) for _, row in plain_cells(web, mating))
            many = len(plain_clusters(web, painting, mating))
            loud = plain_loud(web, painting, mating)
            if cancel:
                continue
            for deed in (("turn", mating), ("flip", mating, ()), ("flip", mating, tuple(range(many)))):
                error = Loud if loud and deed[2:] == (tuple(range(many)),) else NoLabels
                met.add(error)
                with self.assertRaises(error):
                    carried(web, painting, labels, deed)
        self.assertEqual(met, {Loud, NoLabels})

    def test_labels_that_cancel_by_another_mating_alone(self):
        # Each loop by itself has a product; by the mating 1 both are one cell, whose product is the unit.
        labels = ((1, 0), (1, 0))
        self.assertEqual(carried(EIGHT, (0,), labels, ("turn", (1,))), ((2,), (2,)))
        with self.assertRaises(NoLabels):
            carried(EIGHT, (0,), labels, ("turn", (0,)))
        self.assertEqual(carried(EIGHT, (0,), labels, ("bare",)), ((2,), (2,)))

    def test_anything_as_labels_as_deed(self):
        for thing in ANYTHING:
            with self.assertRaises(NoLabels):
                carried(EIGHT, (0,), thing, ("bare",))
            with self.assertRaises(NoDeeds):
                carried(EIGHT, (0,), ((0, 1), (0, 1)), thing)

    def test_by_its_own_mating_all_stays(self):
        for at, (web, painting, _) in enumerate(all_samples()):
            own = plain_own(web, painting)
            labels = plain_closed(web, own, chance_labels(web, 3, at))
            told = carried(web, painting, labels, ("turn", own))
            self.assertEqual(told, tuple(
                plain_product(web, labels, row) if is_tie(web, row) else (1, 1, 1) for _, row in plain_lines(web, painting)
            ))
            self.assertEqual(len(plain_ends(web)) // 2, sum(is_tie(web, row) for _, row in plain_lines(web, painting)))


if __name__ == "__main__":
    unittest.main()
