"""[23], [24]: the one flip between two paintings, matings that fit, flips one by one and the paintings between."""

import unittest
from itertools import permutations

from plain_deeds import (
    chance_painting, plain_behind, plain_cluster_ways, plain_clusters, plain_flipped, plain_is_deed,
)
from plain_products import plain_fits, plain_third
from support import (
    ANYTHING, BIG_WEBS, BOARD, EIGHT, EMPTY, LONG, LOOP_AND_ENDS, ROUND, SMALL_WEBS, STAR, alike, plain_is_painting,
    plain_matings, plain_own, plain_paintings, random_mating, spoiled,
)
from test_two import larger_pairs, leading, small_pairs
from tiewheel.clusters.flips import flips_to
from tiewheel.matings.matings import third
from tiewheel.two.bridge import between, bridge, least_fit, one_by_one, shows_bridge
from tiewheel.two.two import is_amid
from tiewheel.webs.errors import NoMating, NoPainting, NoWeb


def all_pairs():
    return list(small_pairs()) + list(larger_pairs())


class TestBridge(unittest.TestCase):
    def test_between_any_two_by_the_third_of_both_own_matings(self):
        for web, painting, other in all_pairs():
            word, mating, flips = bridge(web, painting, other)
            self.assertEqual(word, "flip")
            self.assertEqual(mating, plain_third(web, painting, other))
            self.assertEqual(mating, third(web, plain_own(web, painting), plain_own(web, other)))
            self.assertEqual(plain_flipped(web, painting, mating, flips), other)
            self.assertEqual(flips_to(web, painting, mating, other), flips)
            self.assertEqual(bridge(web, other, painting), (word, mating, flips))
            self.assertIs(shows_bridge(web, painting, other, (word, mating, flips)), True)
            self.assertIs(shows_bridge(web, other, painting, (word, mating, flips)), True)

    def test_by_hand(self):
        self.assertEqual(bridge(EMPTY, (), ()), ("flip", (), ()))
        self.assertEqual(bridge(STAR, (0, 1), (0, 1)), ("flip", (0,), ()))
        self.assertEqual(bridge(STAR, (0, 1), (2, 3)), ("flip", (0,), (0,)))
        # Own matings 0 and 2; by the third, 1, the ends 1 and 2 are mates.
        self.assertEqual(bridge(STAR, (0, 1), (0, 2)), ("flip", (1,), (1,)))
        self.assertEqual(bridge(EIGHT, (0,), (1,)), ("flip", (0,), (0,)))

    def test_shows_bridge_of_any_flip_that_makes_the_other(self):
        right = wrong = 0
        for web, painting, other in all_pairs():
            for seed in range(3):
                mating = leading(web, painting, other, seed)
                flips = flips_to(web, painting, mating, other)
                self.assertIs(shows_bridge(web, painting, other, ("flip", mating, flips)), True)
                right += 1
                for near in (flips + (0,), flips[1:], flips[:-1], (), tuple(range(len(flips)))):
                    deed = ("flip", mating, near)
                    expected = plain_is_deed(web, painting, deed) and plain_behind(web, painting, deed) == other
                    self.assertIs(shows_bridge(web, painting, other, deed), expected)
                    wrong += not expected
            own = plain_own(web, painting)
            self.assertIs(shows_bridge(web, painting, painting, ("flip", own, ())), True)
            # Deeds that make it but are no flips.
            self.assertIs(shows_bridge(web, painting, painting, ("turn", own)), False)
            bare = plain_behind(web, painting, ("bare",))
            self.assertIs(shows_bridge(web, painting, bare, ("bare",)), False)
        self.assertGreater(min(right, wrong), 200)

    def test_shows_bridge_of_anything(self):
        for web in (EMPTY, EIGHT, STAR, LOOP_AND_ENDS):
            rows = plain_paintings(web)
            for painting, other in ((rows[0], rows[-1]), (rows[-1], rows[0]), (rows[0], rows[0])):
                deed = bridge(web, painting, other)
                for thing in ANYTHING + spoiled(deed) + [("bare",), ("turn", plain_own(web, painting)), deed + (0,)]:
                    expected = (
                        plain_is_deed(web, painting, thing) and thing[0] == "flip"
                        and plain_behind(web, painting, thing) == other
                    )
                    self.assertIs(shows_bridge(web, painting, other, thing), expected, thing)


class TestLeastFit(unittest.TestCase):
    def test_against_all_matings_of_small_webs(self):
        for web, painting, other in small_pairs():
            least = min(mating for mating in plain_matings(web) if plain_fits(web, painting, other, mating))
            self.assertEqual(least_fit(web, painting, other), least)
            self.assertEqual(least_fit(web, other, painting), least)

    def test_larger_webs(self):
        for web, painting, other in larger_pairs():
            told = least_fit(web, painting, other)
            self.assertTrue(plain_fits(web, painting, other, told))
            for post in range(web[0]):
                for lesser in range(told[post]):
                    self.assertFalse(plain_fits(web, painting, other, told[:post] + (lesser,) + told[post + 1:]))

    def test_of_a_painting_and_itself(self):
        for web in SMALL_WEBS + BIG_WEBS[:4]:
            painting = chance_painting(web, 1)
            self.assertEqual(least_fit(web, painting, painting), (0,) * web[0])
            self.assertEqual(one_by_one(web, painting, painting), ())
            self.assertEqual(between(web, painting, painting), (painting,))


class TestOneByOne(unittest.TestCase):
    def fitting(self, web, painting, other):
        rows = plain_matings(web)[::max(1, 3 ** web[0] // 30)] if web[0] < 5 else [leading(web, painting, other, 4)]
        return [mating for mating in rows if plain_fits(web, painting, other, mating)]

    def check(self, web, painting, other, mating, deeds):
        ways = {}
        for number in range(len(plain_clusters(web, painting, mating))):
            ways[number] = plain_cluster_ways(web, painting, mating, number)
        unlike = set(painting) ^ set(other)
        wanted = [number for number in ways if ways[number] <= unlike]
        self.assertEqual(deeds, tuple(("flip", mating, (number,)) for number in wanted))
        self.assertEqual(set().union(*[ways[number] for number in wanted]), unlike)

    def test_with_a_mating_and_without_one(self):
        several = 0
        for web, painting, other in all_pairs():
            least = least_fit(web, painting, other)
            told = one_by_one(web, painting, other)
            self.check(web, painting, other, least, told)
            several += len(told) > 1
            self.assertEqual(one_by_one(web, painting, other, mating=None), told)
            self.assertEqual(one_by_one(web, painting, other, mating=least), told)
            for mating in self.fitting(web, painting, other):
                self.check(web, painting, other, mating, one_by_one(web, painting, other, mating=mating))
        self.assertGreater(several, 50)

    def test_between(self):
        for web, painting, other in all_pairs():
            for mating in [None] + self.fitting(web, painting, other)[:4]:
                deeds = one_by_one(web, painting, other, mating=mating)
                rows = between(web, painting, other, mating=mating)
                self.assertEqual(len(rows), len(deeds) + 1)
                self.assertEqual((rows[0], rows[-1]), (painting, other))
                for at, deed in enumerate(deeds):
                    self.assertEqual(plain_behind(web, rows[at], deed), rows[at + 1])
                for row in rows:
                    self.assertTrue(plain_is_painting(web, row))
                    self.assertIs(is_amid(web, painting, other, row), True)
            self.assertEqual(between(web, painting, other), between(web, painting, other, mating=None))

    def test_in_whatever_order(self):
        seen = 0
        for web, painting, other in all_pairs():
            deeds = one_by_one(web, painting, other)
            orders = list(permutations(deeds))[:12] if len(deeds) < 5 else [deeds[::-1], deeds[3:] + deeds[:3]]
            for order in orders:
                here = painting
                for deed in order:
                    self.assertTrue(plain_is_deed(web, here, deed))
                    here = plain_behind(web, here, deed)
                    self.assertIs(is_amid(web, painting, other, here), True)
                self.assertEqual(here, other)
                seen += order != deeds
        self.assertGreater(seen, 100)

    def test_no_mating_that_fits(self):
        refused = 0
        for web, painting, other in small_pairs(4):
            for mating in plain_matings(web)[::max(1, 3 ** web[0] // 12)]:
                for ask in (one_by_one, between):
                    if plain_fits(web, painting, other, mating):
                        ask(web, painting, other, mating=mating)
                    else:
                        refused += 1
                        with self.assertRaises(NoMating):
                            ask(web, painting, other, mating=mating)
        self.assertGreater(refused, 100)
        for thing in ANYTHING + [(3,), (0, 0), [0]]:
            if thing is not None and not any(alike(thing, mating) for mating in plain_matings(EIGHT)):
                for ask in (one_by_one, between):
                    with self.assertRaises(NoMating):
                        ask(EIGHT, (0,), (0,), mating=thing)

    def test_four_unlike_hands_with_its_own_mating_lead_but_do_not_fit(self):
        with self.assertRaises(NoMating):
            one_by_one(EIGHT, (0,), (1,), mating=(0,))
        self.assertEqual(one_by_one(EIGHT, (0,), (1,)), (("flip", (1,), (0,)),))
        self.assertEqual(one_by_one(STAR, (0, 1), (2, 3)), (("flip", (1,), (0,)), ("flip", (1,), (1,))))
        self.assertEqual(between(STAR, (0, 1), (2, 3)), ((0, 1), (1, 3), (2, 3)))
        self.assertEqual(between(STAR, (0, 1), (2, 3), mating=(2,)), ((0, 1), (1, 2), (2, 3)))


class TestRefusals(unittest.TestCase):
    def test_order(self):
        for ask, more in ((bridge, ()), (least_fit, ()), (one_by_one, ()), (between, ()), (shows_bridge, (None,))):
            with self.assertRaises(NoWeb):
                ask(None, None, None, *more)
            with self.assertRaises(NoPainting):
                ask(EIGHT, None, (0,), *more)
            with self.assertRaises(NoPainting):
                ask(EIGHT, (0,), None, *more)
        for ask in (one_by_one, between):
            with self.assertRaises(NoPainting):
                ask(EIGHT, (0,), None, mating=0)
            with self.assertRaises(TypeError):
                ask(EIGHT, (0,), (1,), (1,))

    def test_anything_as_either_painting(self):
        right = plain_paintings(BOARD)[5]
        for thing in ANYTHING + spoiled(right):
            if not plain_is_painting(BOARD, thing):
                for ask, more in ((bridge, ()), (least_fit, ()), (one_by_one, ()), (between, ()), (shows_bridge, (None,))):
                    for pair in ((right, thing), (thing, right)):
                        with self.assertRaises(NoPainting):
                            ask(BOARD, *pair, *more)

    def test_sixty_posts(self):
        for web in (LONG, ROUND):
            painting, other = chance_painting(web, 6), chance_painting(web, 7)
            self.assertNotEqual(painting, other)
            self.assertEqual(plain_behind(web, painting, bridge(web, painting, other)), other)
            self.assertEqual(between(web, painting, other)[-1], other)
            self.assertFalse(plain_fits(web, painting, other, random_mating(1, web)))


if __name__ == "__main__":
    unittest.main()
