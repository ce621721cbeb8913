"""[22]: weights, their sums, which cancel, bases and what shows one."""

import unittest
from itertools import product
from random import Random

from plain_deeds import MIDDLE_WEBS, chance_painting, is_tie
from plain_products import plain_cell_sums, plain_cells, plain_rank, plain_shows_base, plain_sum
from support import (
    ANYTHING, BIG_WEBS, BOARD, EIGHT, EMPTY, FOUR_WAYS, LONG, LOOP_AND_ENDS, NESTED, ROUND, SMALL_WEBS, STAR,
    alike, necklace, plain_matings, plain_own, plain_strands, random_mating, spoiled,
)
from tiewheel.products.weights import base_of, do_cancel, is_weights, shows_base, strand_sum
from tiewheel.webs.errors import NoLabels, NoMating, NoNumber, NoWeb

ALL_ENDS = (60, tuple((hand,) for hand in range(240)))


def samples():
    for web in SMALL_WEBS:
        rows = plain_matings(web)
        for at in range(0, len(rows), max(1, len(rows) // 5)):
            yield web, (rows[at],)
            yield web, (rows[at], rows[-1 - at])
            yield web, (rows[at], rows[at])
    for web in MIDDLE_WEBS:
        for seed in range(3):
            own = plain_own(web, chance_painting(web, seed))
            yield web, (random_mating(seed, web), random_mating(seed + 7, web))
            yield web, (own, random_mating(seed, web))
            yield web, (own, own)


def large_samples():
    for web in [LONG, ROUND] + BIG_WEBS[2:5]:
        one, other = random_mating(1, web), random_mating(2, web)
        half = one[:30] + other[30:] if web[0] == 60 else one[:1] + other[1:]
        for matings in ((one,), (one, other), (other, other), (one, half)):
            yield web, matings


def chance_weights(web, seed):
    chance = Random(seed)
    return tuple(chance.randint(-9, 9) for _ in web[1])


def other_base(web, matings, sums, seed):
    """A right base found otherwise: ways in an order of chance are told, each by a cell's sum that is reduced."""
    chance = Random(seed)
    many = len(web[1])
    steps, told = [], []
    # (terms, total): cells' sums, reduced by those that tell a way already so that just one step has it.
    left = [([key + (1,)], list(cell)) for key, cell in sums.items()]
    chance.shuffle(left)
    while left:
        fits = [(at, way) for at, (_, total) in enumerate(left) for way in range(many) if abs(total[way]) == 1]
        if not fits:
            break
        at, way = chance.choice(fits)
        terms, total = left.pop(at)
        steps.append((tuple(terms), way))
        told.append(way)
        for place, (more, other) in enumerate(left):
            times = other[way] * total[way]
            added = [(which, number, sign if times < 0 else -sign) for which, number, sign in terms] * abs(times)
            left[place] = (more + added, [a - times * b for a, b in zip(other, total)])
    if any(any(total) for _, total in left):
        return None
    free = tuple(way for way in range(many) if way not in told)
    rows = []
    for way in free:
        row = [int(way == at) for at in range(many)]
        for terms, at in steps[::-1]:
            total = [sum(term[2] * sums[term[:2]][place] for term in terms) for place in range(many)]
            row[at] = -sum(a * b for a, b in zip(total, row)) * total[at]
        rows.append(tuple(row))
    # A way that is told later is in sums ahead of it: so the last step goes ahead.
    return (free, tuple(rows), tuple(steps[::-1]))


class TestWeights(unittest.TestCase):
    def test_is_weights(self):
        for web in SMALL_WEBS + BIG_WEBS:
            weights = chance_weights(web, 1)
            self.assertIs(is_weights(web, weights), True)
            self.assertIs(is_weights(web, weights + (0,)), False)
            self.assertIs(is_weights(web, list(weights)), False)
            if web[1]:
                self.assertIs(is_weights(web, weights[1:]), False)
                self.assertIs(is_weights(web, (10 ** 40 - 1,) * len(web[1])), True)
                for part in (True, False, None, "1", (1,), [1], {}):
                    self.assertIs(is_weights(web, weights[:-1] + (part,)), False)

    def test_anything(self):
        for web in (EMPTY, EIGHT, STAR, LOOP_AND_ENDS):
            for thing in ANYTHING + spoiled(chance_weights(web, 2)):
                expected = isinstance(thing, tuple) and len(thing) == len(web[1]) and all(type(x) is int for x in thing)
                self.assertIs(is_weights(web, thing), expected, thing)

    def test_sums(self):
        for at, (web, matings) in enumerate(list(samples()) + list(large_samples())):
            weights = chance_weights(web, at)
            for mating in matings:
                for number, row in enumerate(plain_strands(web, mating)):
                    self.assertEqual(strand_sum(web, mating, weights, number), plain_sum(web, weights, row))

    def test_sums_by_hand(self):
        # In by the end 1, from 0 across to 2, out by the end 3.
        self.assertEqual(plain_strands(LOOP_AND_ENDS, (0,)), ((1, 0, 2, 3),))
        self.assertEqual(strand_sum(LOOP_AND_ENDS, (0,), (5, 20, 300), 0), 20 + 5 - 300)
        # The cell 0, 2 is gone from 2 to 0.
        self.assertEqual(strand_sum(LOOP_AND_ENDS, (2,), (5, 20, 300), 0), -5)
        self.assertEqual(strand_sum(LOOP_AND_ENDS, (2,), (5, 20, 300), 1), 20 - 300)
        self.assertEqual(strand_sum(EIGHT, (1,), (10 ** 39, 3), 0), -3 - 10 ** 39)

    def test_do_cancel(self):
        met = set()
        for at, (web, matings) in enumerate(list(samples()) + list(large_samples())):
            base = base_of(web, matings)
            rows = [chance_weights(web, at), (0,) * len(web[1]), (1,) * len(web[1])] + list(base[1][:3])
            for weights in rows:
                cells = [row for mating in matings for _, row in plain_cells(web, mating)]
                expected = all(plain_sum(web, weights, row) == 0 for row in cells)
                self.assertIs(do_cancel(web, matings, weights), expected)
                met.add((len(matings), expected))
        self.assertEqual(met, {(1, True), (1, False), (2, True), (2, False)})


class TestBases(unittest.TestCase):
    def check(self, web, matings):
        told = base_of(web, matings)
        sums = plain_cell_sums(web, matings)
        self.assertTrue(plain_shows_base(web, matings, told, sums), (web, matings, told))
        self.assertIs(shows_base(web, matings, told), True)
        self.assertEqual(len(told[0]), len(web[1]) - plain_rank(list(sums.values())))
        return told, sums

    def test_whatever_the_web(self):
        doubled = several = 0
        for web, matings in samples():
            told, sums = self.check(web, matings)
            for terms, way in told[2]:
                times = sum(term[2] * sums[term[:2]][way] for term in terms)
                doubled, several = doubled + (abs(times) == 2), several + (len(terms) > 1)
        # Cells that hang together such that no signs let all their ways cancel: a way is in twice.
        self.assertGreater(doubled, 3)
        self.assertGreater(several, 3)

    def test_of_sixty_posts(self):
        for web, matings in large_samples():
            self.check(web, matings)

    def test_of_none_and_of_all_ends(self):
        for matings in (((),), ((), ())):
            self.assertEqual(base_of(EMPTY, matings), ((), (), ()))
            self.assertIs(shows_base(EMPTY, matings, ((), (), ())), True)
        told = base_of(ALL_ENDS, ((2,) * 60,))
        self.assertEqual(told[0], tuple(range(240)))
        self.assertEqual(told[2], ())

    def test_all_weights_that_cancel_are_sums_of_rows(self):
        for web, matings in [(EIGHT, ((0,), (1,))), (NESTED, ((0,),)), (FOUR_WAYS, ((0, 0), (1, 1))), (BOARD, ((0, 1, 1, 0),))]:
            free, rows, _ = base_of(web, matings)
            found = 0
            for weights in product((-1, 0, 1, 2), repeat=len(web[1])) if len(web[1]) < 6 else ():
                if do_cancel(web, matings, weights):
                    found += 1
                    total = [sum(weights[way] * row[at] for way, row in zip(free, rows)) for at in range(len(weights))]
                    self.assertEqual(tuple(total), weights)
            self.assertTrue(found or len(web[1]) > 5)

    def test_by_hand(self):
        # By the mating 1 both loops are one cell: from 3 to 2, then from 1 to 0.
        for base, right in (
            (((0,), ((1, -1),), ((((0, 0, 1),), 1),)), True), (((1,), ((-1, 1),), ((((0, 0, 1),), 0),)), True),
            (((0,), ((1, -1),), ((((0, 0, -1),), 1),)), True), (((0,), ((1, 1),), ((((0, 0, 1),), 1),)), False),
            (((0,), ((1, -1),), ((((0, 0, 1), (0, 0, 1)), 1),)), True),
            (((0,), ((1, -1),), ((((0, 0, 1), (0, 0, -1)), 1),)), False),
            (((0,), ((1, -1),), ((((0, 0, 1),) * 3 + ((0, 0, -1),), 1),)), True),
            (((0,), ((1, -1),), ((((0, 0, 1),), 0),)), False), (((0,), ((1, -1),), ()), False),
            (((), (), ((((0, 0, 1),), 0), (((0, 0, 1),), 1))), False), (((0,), ((2, -2),), ((((0, 0, 1),), 1),)), False),
            (((0, 1), ((1, 0), (0, 1)), ()), False), (((0,), ((1, -1),), (((), 1),)), False),
            (((0,), ((1, -1),), ((((1, 0, 1),), 1),)), False), (((0,), ((1, -1),), ((((0, 1, 1),), 1),)), False),
            (((0,), ((1, -1),), ((((0, 0, 2),), 1),)), False), (((0,), ((1, -1),), ((((0, 0, 0),), 1),)), False),
            (((0,), ((1, -1),), ((((0, 0, True),), 1),)), False), (((False,), ((1, -1),), ((((0, 0, 1),), 1),)), False),
            (((0,), ((True, -1),), ((((0, 0, 1),), 1),)), False), (((0,), ((1, -1),), ((((0, 0, 1),), True),)), False),
            (((0,), ((1, -1),), ((((False, 0, 1),), 1),)), False), (((0,), [(1, -1)], ((((0, 0, 1),), 1),)), False),
            (((0,), ((1, -1),), ((((0, 0, 1),), 1), (((0, 0, 1),), 1))), False),
            (((0,), ((1, -1),), ((((0, 0, 1),), 1), (((0, 0, 1),), 0))), False),
        ):
            self.assertIs(shows_base(EIGHT, ((1,),), base), right, base)
            self.assertIs(plain_shows_base(EIGHT, ((1,),), base, plain_cell_sums(EIGHT, ((1,),))), right)

    def test_bases_that_the_program_would_not_tell(self):
        others = 0
        for at, (web, matings) in enumerate(list(samples())[::2]):
            sums = plain_cell_sums(web, matings)
            for seed in range(2):
                base = other_base(web, matings, sums, 10 * at + seed)
                if base is None:
                    continue
                expected = plain_shows_base(web, matings, base, sums)
                self.assertIs(shows_base(web, matings, base), expected)
                others += expected and base != base_of(web, matings)
        self.assertGreater(others, 60)

    def test_other_orders_and_more_terms(self):
        chance = Random(2)
        right = 0
        for web, matings in samples():
            free, rows, steps = base_of(web, matings)
            sums = plain_cell_sums(web, matings)
            for _ in range(4):
                moved = list(steps)
                chance.shuffle(moved)
                self.agree(web, matings, (free, rows, tuple(moved)), sums)
            # Terms thrice, with others that are added and taken away, turned about.
            fuller = []
            for terms, way in steps:
                more = [term for key in list(sums)[:2] for term in (key + (1,), key + (-1,))]
                fuller.append((tuple(list(terms) * 3 + more)[::-1], way))
            right += self.agree(web, matings, (free, rows, tuple(fuller)), sums)
        self.assertGreater(right, 100)

    def agree(self, web, matings, thing, sums):
        expected = plain_shows_base(web, matings, thing, sums)
        self.assertIs(shows_base(web, matings, thing), expected, (web, matings, thing))
        return expected

    def test_what_is_much_like_a_base_and_anything(self):
        met = set()
        for web, matings in [(EIGHT, ((1,),)), (EIGHT, ((0,), (1,))), (EIGHT, ((0,),)), (LOOP_AND_ENDS, ((2,),)),
                             (STAR, ((0,), (1,))), (FOUR_WAYS, ((0, 0), (1, 2))), (necklace(2), ((0, 1), (2, 1))), (EMPTY, ((),))]:
            sums = plain_cell_sums(web, matings)
            base = base_of(web, matings)
            for thing in ANYTHING + spoiled(base):
                met.add(self.agree(web, matings, thing, sums))
        self.assertEqual(met, {True, False})


class TestRefusals(unittest.TestCase):
    def test_no_matings(self):
        wrong = [(), ((0,), (0,), (0,)), (0,), [(0,)], ((0,), [0]), ((0,), None), None, 0, "0", ((3,),), ((True,),),
                 ((0, 0),), ((),), {}, ((0,), (0, 0)), (("0",),), True, ((-1,),), ((10 ** 39,),)]
        for thing in wrong + [thing for thing in ANYTHING if not alike(thing, ((0,),))]:
            for ask, more in ((do_cancel, ((1, 1),)), (base_of, ()), (shows_base, (None,))):
                with self.assertRaises(NoMating, msg=str(thing)):
                    ask(EIGHT, thing, *more)
        for matings in (((0,),), ((0,), (0,)), ((2,), (1,))):
            self.assertIsInstance(base_of(EIGHT, matings), tuple)

    def test_order(self):
        for ask, more in ((is_weights, 1), (strand_sum, 3), (do_cancel, 2), (base_of, 1), (shows_base, 2)):
            with self.assertRaises(NoWeb):
                ask(None, *[None] * more)
        with self.assertRaises(NoMating):
            strand_sum(EIGHT, None, None, None)
        with self.assertRaises(NoLabels):
            strand_sum(EIGHT, (0,), None, None)
        with self.assertRaises(NoMating):
            do_cancel(EIGHT, None, None)
        for thing in ANYTHING:
            if not isinstance(thing, tuple) or len(thing) != 2 or not all(type(part) is int for part in thing):
                with self.assertRaises(NoLabels):
                    do_cancel(EIGHT, ((0,),), thing)
                with self.assertRaises(NoLabels):
                    strand_sum(EIGHT, (0,), thing, None)

    def test_no_strands_number(self):
        for number in (-1, 2, True, None, "0", (0,), [0], 10 ** 39):
            with self.assertRaises(NoNumber) as caught:
                strand_sum(EIGHT, (0,), (1, 2), number)
            self.assertIs(caught.exception.number, number)
        with self.assertRaises(NoNumber):
            strand_sum(EMPTY, (), (), 0)
        self.assertFalse(any(is_tie(EIGHT, row) for row in plain_strands(EIGHT, (0,))))


if __name__ == "__main__":
    unittest.main()
