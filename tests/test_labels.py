"""[19], [20], of [21] which labels cancel, what is closed, what is pinned."""

import unittest
from itertools import permutations, product
from random import Random

from plain_deeds import chance_painting, is_tie, large_samples, middle_samples, plain_lines, small_samples
from plain_products import (
    chance_labels, chance_perm, compose, is_unit, plain_along, plain_cells, plain_cycles, plain_product, undo,
)
from support import (
    ANYTHING, BIG_WEBS, BOARD, EIGHT, EMPTY, LONG, LOOP_AND_ENDS, NESTED, ROUND, SMALL_WEBS, STAR, alike, plain_ends,
    plain_matings, plain_own, plain_strands, plain_way, random_mating, spoiled,
)
from tiewheel.products.labels import (
    along, bar_of, closed, is_labels, line_product, pinned, strand_product,
)
from tiewheel.webs.errors import NoHand, NoLabels, NoMating, NoNumber, NoPainting, NoWeb

SWAP, KEEP = (1, 0), (0, 1)


def all_samples():
    return list(small_samples(2, 4)) + list(middle_samples(2)) + list(large_samples())


def plain_is_labels(web, thing):
    if not isinstance(thing, tuple) or len(thing) != len(web[1]):
        return False
    if not all(any(alike(row, perm) for size in range(1, 6) for perm in permutations(range(size))) for row in thing):
        return False
    return len({len(row) for row in thing}) <= 1


class TestIsLabels(unittest.TestCase):
    def test_labels_of_each_size(self):
        for web in SMALL_WEBS + BIG_WEBS:
            for size in range(1, 6):
                self.assertIs(is_labels(web, chance_labels(web, size, size)), True)
            if web[1]:
                self.assertIs(is_labels(web, chance_labels(web, 6, 1)), False)
                self.assertIs(is_labels(web, ((),) * len(web[1])), False)
                self.assertIs(is_labels(web, ()), False)

    def test_of_no_ways(self):
        self.assertIs(is_labels(EMPTY, ()), True)
        for thing in ((KEEP,), ((),), [], None, 0, ((0,),)):
            self.assertIs(is_labels(EMPTY, thing), False)

    def test_one_too_few_one_too_many_unlike_sizes(self):
        for web in [web for web in SMALL_WEBS if web[1]] + [LONG]:
            labels = chance_labels(web, 3, 1)
            wrong = [labels[:-1], labels + (labels[0],), labels[1:], list(labels), labels[:-1] + ((0, 1),)]
            wrong += [labels[:-1] + ((0, 1, 2, 3),), ((0, 1),) + labels[1:], labels[:-1] + ([0, 1, 2],)]
            wrong += [labels[:-1] + ((0, 1, 1),), labels[:-1] + ((0, True, 2),), ((False, 1, 2),) + labels[1:]]
            wrong += [labels[:-1] + ((1, 2, 3),), labels[:-1] + (None,), labels[:-1] + ("012",), labels[:-1] + ((),)]
            wrong += [labels[:-1] + ((0, 1, 10 ** 39),), labels[:-1] + ((-1, 0, 1),), labels[:-1] + ((0, [1], 2),)]
            for thing in wrong:
                if len(thing) == len(web[1]) == 1 and plain_is_labels(web, thing):
                    continue
                self.assertIs(is_labels(web, thing), plain_is_labels(web, thing), thing)
                if not plain_is_labels(web, thing):
                    with self.assertRaises(NoLabels):
                        along(web, thing, None)

    def test_anything(self):
        for web in (EMPTY, EIGHT, LOOP_AND_ENDS, STAR):
            labels = chance_labels(web, 2, 3)
            for thing in ANYTHING + spoiled(labels) + spoiled(chance_labels(web, 1, 0)):
                self.assertIs(is_labels(web, thing), plain_is_labels(web, thing), thing)


class TestAlong(unittest.TestCase):
    def test_by_hand(self):
        # A way of two hands, 0 and 2; the ends 1 and 3.
        labels = ((1, 2, 0), (2, 0, 1), (0, 2, 1))
        self.assertEqual(along(LOOP_AND_ENDS, labels, 0), (1, 2, 0))
        self.assertEqual(along(LOOP_AND_ENDS, labels, 2), (2, 0, 1))
        self.assertEqual(along(LOOP_AND_ENDS, labels, 1), (1, 2, 0))
        self.assertEqual(along(LOOP_AND_ENDS, labels, 3), (0, 2, 1))

    def test_both_ways_and_out_of_ends(self):
        for web in SMALL_WEBS + BIG_WEBS[:4]:
            labels = chance_labels(web, 4, 5)
            for hand in range(4 * web[0]):
                told = along(web, labels, hand)
                self.assertEqual(told, plain_along(web, labels, hand))
                way = web[1][plain_way(web, hand)]
                label = labels[plain_way(web, hand)]
                self.assertEqual(told, label if hand == way[0] and len(way) == 2 else undo(label))

    def test_no_hand(self):
        for hand in (-1, 4, True, None, "0", (0,), 10 ** 39):
            with self.assertRaises(NoHand) as caught:
                along(EIGHT, (KEEP, SWAP), hand)
            self.assertIs(caught.exception.hand, hand)


class TestProducts(unittest.TestCase):
    def test_by_hand(self):
        web = LOOP_AND_ENDS
        labels = ((1, 2, 0), (2, 0, 1), (0, 2, 1))
        # By the mating 2 the way 0-2 is a cell, gone from 2 to 0; the border is in by 1, out by 3.
        self.assertEqual(plain_strands(web, (2,)), ((0, 2), (1, 3)))
        self.assertEqual(strand_product(web, (2,), labels, 0), (2, 0, 1))
        self.assertEqual(strand_product(web, (2,), labels, 1), compose((2, 0, 1), (0, 2, 1)))
        # By the mating 0: in by 1, out by 0 and in by 2, out by 3.
        self.assertEqual(plain_strands(web, (0,)), ((1, 0, 2, 3),))
        wanted = compose(compose((2, 0, 1), (1, 2, 0)), (0, 2, 1))
        self.assertEqual(strand_product(web, (0,), labels, 0), wanted)
        self.assertEqual(line_product(web, (0,), labels, 1), (2, 0, 1))
        self.assertEqual(line_product(web, (0,), labels, 0), compose((2, 0, 1), (0, 2, 1)))

    def test_of_all_strands_and_lines(self):
        cells = borders = 0
        for at, (web, painting, mating) in enumerate(all_samples()):
            labels = chance_labels(web, 1 + at % 5, at)
            for number, row in enumerate(plain_strands(web, mating)):
                self.assertEqual(strand_product(web, mating, labels, number), plain_product(web, labels, row))
                cells, borders = cells + (not is_tie(web, row)), borders + is_tie(web, row)
            for number, (_, row) in enumerate(plain_lines(web, painting)):
                self.assertEqual(line_product(web, painting, labels, number), plain_product(web, labels, row))
        self.assertGreater(min(cells, borders), 200)

    def test_from_wherever_and_whichever_way(self):
        for at, (web, _, mating) in enumerate(all_samples()):
            labels = chance_labels(web, 4, at)
            for number, row in enumerate(plain_strands(web, mating)):
                told = strand_product(web, mating, labels, number)
                if is_tie(web, row):
                    self.assertEqual(undo(told), plain_product(web, labels, row[::-1]))
                else:
                    for other in (row[2:] + row[:2], row[::-1], row[4:] + row[:4]):
                        self.assertEqual(plain_cycles(told), plain_cycles(plain_product(web, labels, other)))

    def test_no_numbers(self):
        for number in (-1, 2, True, None, "0", (0,), [0], 10 ** 39):
            with self.assertRaises(NoNumber) as caught:
                strand_product(EIGHT, (0,), (KEEP, SWAP), number)
            self.assertIs(caught.exception.number, number)
            with self.assertRaises(NoNumber) as caught:
                line_product(EIGHT, (0,), (KEEP, SWAP), number)
            self.assertIs(caught.exception.number, number)
        with self.assertRaises(NoNumber):
            strand_product(EMPTY, (), (), 0)
        with self.assertRaises(NoNumber):
            line_product(EMPTY, (), (), 0)
        with self.assertRaises(NoNumber):
            strand_product(EIGHT, (1,), (KEEP, SWAP), 1)


class TestBarsAndClosed(unittest.TestCase):
    def plain_bar(self, web, mating, labels):
        bars = [number for number, row in plain_cells(web, mating) if not is_unit(plain_product(web, labels, row))]
        return bars[0] if bars else None

    def test_by_hand(self):
        # By its mating 0 each loop is a cell; a border bars nothing.
        self.assertIsNone(bar_of(EIGHT, (0,), (KEEP, KEEP)))
        self.assertEqual(repr(bar_of(EIGHT, (0,), (SWAP, SWAP))), "0")
        self.assertEqual(repr(bar_of(EIGHT, (0,), (KEEP, SWAP))), "1")
        self.assertIsNone(bar_of(EIGHT, (1,), (SWAP, SWAP)))
        self.assertIsNone(bar_of(STAR, (1,), (SWAP, KEEP, SWAP, SWAP)))
        self.assertEqual(closed(EIGHT, (0,), (SWAP, SWAP)), (KEEP, KEEP))
        self.assertEqual(closed(EIGHT, (1,), (SWAP, SWAP)), (SWAP, SWAP))
        self.assertEqual(plain_strands(EIGHT, (1,)), ((0, 3, 2, 1),))
        self.assertEqual(closed(EIGHT, (1,), ((1, 2, 0), (0, 2, 1))), ((0, 2, 1), (0, 2, 1)))
        self.assertEqual(plain_strands(NESTED, (0,)), ((0, 1, 2, 3),))
        self.assertEqual(closed(NESTED, (0,), ((1, 2, 0), (0, 2, 1))), ((0, 2, 1), (0, 2, 1)))

    def test_bars(self):
        met = set()
        for at, (web, _, mating) in enumerate(all_samples()):
            for labels in (chance_labels(web, 2, at), chance_labels(web, 1, at), chance_labels(web, 3, at)):
                told = bar_of(web, mating, labels)
                self.assertEqual(repr(told), repr(self.plain_bar(web, mating, labels)))
                met.add(told if told is None or told < 2 else 2)
        self.assertEqual(met, {None, 0, 1, 2})

    def test_closed_changes_just_the_last_way_of_cells_that_bar(self):
        changed = kept = 0
        for at, (web, _, mating) in enumerate(all_samples()):
            for size in (2, 3, 5):
                labels = chance_labels(web, size, at)
                told = closed(web, mating, labels)
                self.assertIs(is_labels(web, told), True)
                self.assertIsNone(bar_of(web, mating, told))
                lasts = {plain_way(web, row[-1]): row for _, row in plain_cells(web, mating)}
                for way, row in lasts.items():
                    self.assertEqual(plain_way(web, row[0]), way)
                    self.assertTrue(is_unit(plain_product(web, told, row)))
                    same = is_unit(plain_product(web, labels, row))
                    self.assertEqual(told[way] == labels[way], same)
                    changed, kept = changed + (not same), kept + same
                self.assertTrue(all(told[way] == labels[way] for way in range(len(web[1])) if way not in lasts))
                self.assertEqual(closed(web, mating, told), told)
        self.assertGreater(min(changed, kept), 50)


class TestPinned(unittest.TestCase):
    def chance_pins(self, web, size, seed):
        chance = Random(seed)
        return tuple(chance_perm(chance, size) for _ in range(web[0]))

    def test_by_hand(self):
        pin = (1, 2, 0)
        self.assertEqual(pinned(LOOP_AND_ENDS, (pin,)), ((0, 1, 2), pin, pin))
        web = (2, ((0, 4), (1,), (2,), (3,), (5,), (6,), (7,)))
        other = (0, 2, 1)
        self.assertEqual(pinned(web, (pin, other)), (compose((2, 0, 1), other), pin, pin, pin, other, other, other))
        self.assertEqual(pinned(EMPTY, ()), ())

    def test_they_cancel_by_each_mating_and_all_ties_have_the_unit(self):
        for at, (web, painting, mating) in enumerate(all_samples()):
            pins = self.chance_pins(web, 1 + at % 5, at)
            labels = pinned(web, pins)
            self.assertIs(is_labels(web, labels), True)
            for other in (mating, plain_own(web, painting), random_mating(at, web)):
                self.assertIsNone(bar_of(web, other, labels))
            for number, (_, row) in enumerate(plain_lines(web, painting)):
                self.assertTrue(is_unit(line_product(web, painting, labels, number)) or not is_tie(web, row))
            for end in plain_ends(web):
                self.assertEqual(along(web, labels, end), undo(pins[end // 4]))

    def test_each_way(self):
        for web in SMALL_WEBS + [LONG, ROUND]:
            pins = self.chance_pins(web, 4, 9)
            labels = pinned(web, pins)
            for label, way in zip(labels, web[1]):
                wanted = pins[way[0] // 4] if len(way) == 1 else compose(undo(pins[way[0] // 4]), pins[way[1] // 4])
                self.assertEqual(label, wanted)

    def test_no_pins(self):
        for web, many in ((EMPTY, 0), (EIGHT, 1), (BOARD, 4), (LONG, 60)):
            pins = self.chance_pins(web, 3, 2)
            wrong = [pins + ((0, 1, 2),), list(pins), pins + ((),), None, 0, "0", {}, ((0, 1), (0,)) * max(1, many)]
            if many:
                wrong += [pins[:-1], pins[:-1] + ((0, 1, 3),), pins[:-1] + ([0, 1, 2],), pins[:-1] + ((True, 0, 2),)]
                wrong += [((),) * many, ((0, 1, 2, 3, 4, 5),) * many, (), (0,) * many, ((0, 0),) * many]
            wrong += [(pins[:-1] + ((0, 1),))] if many > 1 else []
            for thing in wrong:
                with self.assertRaises(NoLabels, msg=str(thing)):
                    pinned(web, thing)
        for thing in ANYTHING:
            if not alike(thing, ((0,),)):
                with self.assertRaises(NoLabels):
                    pinned(EIGHT, thing)


class TestRefusals(unittest.TestCase):
    def test_order(self):
        for ask, more in ((is_labels, 1), (along, 2), (pinned, 1), (strand_product, 3), (line_product, 3), (bar_of, 2),
                          (closed, 2)):
            with self.assertRaises(NoWeb):
                ask(None, *[None] * more)
        with self.assertRaises(NoLabels):
            along(EIGHT, None, None)
        for ask, more in ((strand_product, (None,)), (bar_of, ()), (closed, ())):
            with self.assertRaises(NoMating):
                ask(EIGHT, None, None, *more)
            with self.assertRaises(NoLabels):
                ask(EIGHT, (0,), None, *more)
        with self.assertRaises(NoPainting):
            line_product(EIGHT, None, None, None)
        with self.assertRaises(NoLabels):
            line_product(EIGHT, (0,), None, None)
        self.assertIs(is_labels(EIGHT, None), False)

    def test_webs_of_no_posts_and_of_sixty(self):
        self.assertIsNone(bar_of(EMPTY, (), ()))
        self.assertEqual(closed(EMPTY, (), ()), ())
        with self.assertRaises(NoHand):
            along(EMPTY, (), 0)
        for web in (LONG, ROUND):
            labels = chance_labels(web, 5, 1)
            mating = random_mating(4, web)
            self.assertIsNone(bar_of(web, mating, closed(web, mating, labels)))
            painting = chance_painting(web, 3)
            for number, (_, row) in enumerate(plain_lines(web, painting)):
                self.assertEqual(line_product(web, painting, labels, number), plain_product(web, labels, row))

    def test_all_labels_of_one_post(self):
        for labels in product(permutations(range(3)), repeat=2):
            for web in (EIGHT, NESTED):
                for mating in plain_matings(web):
                    self.assertIsNone(bar_of(web, mating, closed(web, mating, labels)))


if __name__ == "__main__":
    unittest.main()
