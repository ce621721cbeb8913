"""[23], [24]: what is unlike of two paintings, matings that lead, that fit; paintings amid."""

import unittest

from plain_deeds import MIDDLE_WEBS, chance_painting, is_tie, plain_cluster_ways, plain_clusters, plain_crossed
from plain_products import plain_fits, plain_leads, plain_third, unlike_hands
from support import (
    ANYTHING, BIG_WEBS, BOARD, EIGHT, EMPTY, LONG, LOOP_AND_ENDS, ROUND, SMALL_WEBS, STAR, alike, plain_ends,
    plain_is_painting, plain_matings, plain_own, plain_paintings, plain_strands, random_mating, spoiled,
)
from tiewheel.clusters.flips import flips_to
from tiewheel.two.two import fits, is_amid, leads, unlike_ends, unlike_ways
from tiewheel.webs.errors import NoMating, NoPainting, NoWeb


def small_pairs(many=6):
    for web in SMALL_WEBS:
        rows = plain_paintings(web)
        for at in range(0, len(rows), max(1, len(rows) // many)):
            for other in rows[::max(1, len(rows) // many)]:
                yield web, rows[at], other


def larger_pairs():
    for web in MIDDLE_WEBS + BIG_WEBS[:6]:
        for seed in range(3):
            yield web, chance_painting(web, seed), chance_painting(web, seed + 1)
        yield web, chance_painting(web, 0), chance_painting(web, 0)


def leading(web, painting, other, seed):
    """A mating that leads, of chance where it is free."""
    free = random_mating(seed, web)
    own, third = plain_own(web, painting), plain_third(web, painting, other)
    unlike = {hand // 4 for hand in unlike_hands(web, painting, other)}
    two = [post for post in unlike if own[post] != third[post]]
    return tuple(third[post] if post in two else free[post] for post in range(web[0]))


class TestUnlike(unittest.TestCase):
    def test_ways(self):
        self.assertEqual(unlike_ways(STAR, (0, 1), (1, 3)), (0, 3))
        self.assertEqual(unlike_ways(STAR, (0, 1), (0, 1)), ())
        self.assertEqual(unlike_ways(EIGHT, (0,), (1,)), (0, 1))
        self.assertEqual(unlike_ways(EMPTY, (), ()), ())
        for web, painting, other in list(small_pairs()) + list(larger_pairs()):
            told = unlike_ways(web, painting, other)
            self.assertEqual(told, tuple(sorted(set(painting) ^ set(other))))
            self.assertEqual(unlike_ways(web, other, painting), told)

    def test_leads_and_fits(self):
        met = set()
        for web, painting, other in small_pairs(4):
            for mating in plain_matings(web)[::max(1, 3 ** web[0] // 20)]:
                told = (leads(web, painting, other, mating), fits(web, painting, other, mating))
                expected = (plain_leads(web, painting, other, mating), plain_fits(web, painting, other, mating))
                self.assertEqual(told, expected)
                self.assertTrue(all(isinstance(part, bool) for part in told))
                met.add(told)
        self.assertEqual(met, {(True, True), (True, False), (False, False)})
        for web, painting, other in larger_pairs():
            for mating in (random_mating(1, web), leading(web, painting, other, 2), plain_third(web, painting, other)):
                self.assertIs(leads(web, painting, other, mating), plain_leads(web, painting, other, mating))
                self.assertIs(fits(web, painting, other, mating), plain_fits(web, painting, other, mating))

    def test_just_where_it_leads_flips_lead_there_and_back(self):
        met = set()
        samples = [(web, one, two, mating) for web, one, two in small_pairs(4)
                   for mating in plain_matings(web)[::max(1, 3 ** web[0] // 12)]]
        samples += [(web, one, two, leading(web, one, two, 3)) for web, one, two in larger_pairs()]
        for web, painting, other, mating in samples:
            flips = flips_to(web, painting, mating, other)
            self.assertEqual(leads(web, painting, other, mating), flips is not None)
            met.add(flips is None)
            if flips is not None:
                self.assertEqual(flips_to(web, other, mating, painting), flips)
                unlike = set(unlike_ways(web, painting, other))
                lots = range(len(plain_clusters(web, painting, mating)))
                whole = tuple(at for at in lots if plain_cluster_ways(web, painting, mating, at) <= unlike)
                self.assertEqual(flips, whole)
        self.assertEqual(met, {True, False})

    def test_the_third_of_both_own_matings_always_leads(self):
        for web, painting, other in list(small_pairs()) + list(larger_pairs()):
            self.assertIs(leads(web, painting, other, plain_third(web, painting, other)), True)

    def test_unlike_ends(self):
        seen = 0
        for web, painting, other in list(small_pairs()) + list(larger_pairs()):
            for mating in (leading(web, painting, other, 1), plain_third(web, painting, other)):
                told = unlike_ends(web, painting, other, mating)
                unlike = unlike_hands(web, painting, other)
                borders = [(row[0], row[-1]) for row in plain_strands(web, mating) if is_tie(web, row)]
                self.assertEqual(told, tuple(pair for pair in borders if set(pair) <= unlike))
                ends = sorted(end for pair in told for end in pair)
                self.assertEqual(ends, [end for end in plain_ends(web) if end in unlike])
                seen += len(told)
        self.assertGreater(seen, 100)
        self.assertEqual(unlike_ends(STAR, (0, 1), (1, 3), (1,)), ((0, 3),))
        self.assertEqual(unlike_ends(STAR, (0, 1), (2, 3), (2,)), ((0, 2), (1, 3)))

    def test_unlike_ends_of_a_mating_that_does_not_lead(self):
        refused = 0
        for web, painting, other in small_pairs(4):
            for mating in plain_matings(web)[::max(1, 3 ** web[0] // 12)]:
                if plain_leads(web, painting, other, mating):
                    unlike_ends(web, painting, other, mating)
                else:
                    refused += 1
                    with self.assertRaises(NoMating):
                        unlike_ends(web, painting, other, mating)
        self.assertGreater(refused, 100)

    def test_where_it_fits_each_strand_of_unlike_ways_is_a_cluster_by_itself(self):
        for web, painting, other in list(small_pairs(4)) + list(larger_pairs()):
            for mating in plain_matings(web) if web[0] < 4 else (leading(web, painting, other, 5),):
                if not plain_fits(web, painting, other, mating):
                    continue
                self.assertIs(fits(web, painting, other, mating), True)
                unlike = unlike_hands(web, painting, other)
                posts = {hand // 4 for hand in unlike}
                for one in (painting, other):
                    lots = [lot for _, lot in plain_clusters(web, one, mating)]
                    self.assertTrue(posts <= set(plain_crossed(web, one, mating)))
                    for number, row in enumerate(plain_strands(web, mating)):
                        if row[0] in unlike:
                            self.assertIn((number,), lots)


class TestAmid(unittest.TestCase):
    def plain_is_amid(self, web, painting, other, thing):
        if not plain_is_painting(web, thing):
            return False
        return set(painting) & set(other) <= set(thing) <= set(painting) | set(other)

    def test_all_paintings(self):
        met = set()
        for web, painting, other in small_pairs(4):
            for thing in plain_paintings(web)[:60]:
                told = is_amid(web, painting, other, thing)
                self.assertIs(told, self.plain_is_amid(web, painting, other, thing))
                met.add(told)
            self.assertIs(is_amid(web, painting, other, painting), True)
            self.assertIs(is_amid(web, painting, other, other), True)
        self.assertEqual(met, {True, False})

    def test_of_a_painting_and_itself_just_itself(self):
        for web in SMALL_WEBS:
            painting = plain_paintings(web)[-1]
            for thing in plain_paintings(web)[:80]:
                self.assertIs(is_amid(web, painting, painting, thing), thing == painting)

    def test_anything(self):
        for web, painting, other in ((EIGHT, (0,), (1,)), (STAR, (0, 1), (2, 3)), (LOOP_AND_ENDS, (0,), (1, 2)), (EMPTY, (), ())):
            for thing in ANYTHING + spoiled(painting) + spoiled(other):
                self.assertIs(is_amid(web, painting, other, thing), self.plain_is_amid(web, painting, other, thing), thing)

    def test_sixty_posts(self):
        for web in (LONG, ROUND):
            rows = [chance_painting(web, seed) for seed in range(5)]
            for thing in rows:
                self.assertIs(is_amid(web, rows[0], rows[1], thing), self.plain_is_amid(web, rows[0], rows[1], thing))


class TestRefusals(unittest.TestCase):
    def test_order(self):
        for ask, more in ((unlike_ways, 0), (leads, 1), (fits, 1), (is_amid, 1), (unlike_ends, 1)):
            with self.assertRaises(NoWeb):
                ask(None, None, None, *[None] * more)
            with self.assertRaises(NoPainting):
                ask(EIGHT, None, (0,), *[None] * more)
            with self.assertRaises(NoPainting):
                ask(EIGHT, (0,), None, *[None] * more)
        for ask in (leads, fits, unlike_ends):
            for thing in ANYTHING + [(3,), (0, 0), (True,)]:
                if not any(alike(thing, mating) for mating in plain_matings(EIGHT)):
                    with self.assertRaises(NoMating):
                        ask(EIGHT, (0,), (0,), thing)

    def test_no_painting_of_either(self):
        for thing in ANYTHING + [(0, 3), (1,)]:
            if plain_is_painting(BOARD, thing):
                continue
            right = plain_paintings(BOARD)[3]
            for ask, more in ((unlike_ways, ()), (leads, ((0,) * 4,)), (fits, ((0,) * 4,)), (is_amid, (right,))):
                for pair in ((right, thing), (thing, right)):
                    with self.assertRaises(NoPainting):
                        ask(BOARD, *pair, *more)


if __name__ == "__main__":
    unittest.main()
