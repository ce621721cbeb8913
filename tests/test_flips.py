"""[14], [15]: flips, what is flipped by them, flips from one painting to another one, turns, still paintings."""

import unittest
from itertools import combinations

from plain_deeds import (
    chance_painting, large_samples, middle_samples, plain_cluster_ways, plain_clusters, plain_crossed, plain_flipped,
    plain_is_flips, plain_loud, small_samples,
)
from support import (
    ANYTHING, BOARD, EIGHT, EMPTY, LONG, LOOP_AND_ENDS, ROUND, STAR, alike, plain_is_painting,
    plain_matings, plain_own, plain_paintings, spoiled,
)
from tiewheel.clusters.clusters import clusters
from tiewheel.clusters.crossed import crossed
from tiewheel.clusters.flips import flipped, flips_to, is_flips, is_still, turned
from tiewheel.webs.errors import NoFlips, NoMating, NoPainting, NoWeb

# By this mating each strand is a loop by itself, and all posts are crossed: as many clusters as ways.
LOOPS = (60, tuple((4 * post + at, 4 * post + at + 1) for post in range(60) for at in (0, 2)))
LOOPS_PAINTING = tuple(2 * post for post in range(60))
WRONG_FLIPS = [
    (True,), (False,), [0], (1, 0), (0, 0), (0, 1, 1), (-1,), (-1, 0), (10 ** 39,), (0, 10 ** 39), (-10 ** 39,), ("0",),
    (None,), ((0,),), 0, None, True, "0", {0: 0}, ([],), ({},),
]


def all_samples():
    return list(small_samples()) + list(middle_samples()) + list(large_samples())


def some_flips(web, painting, mating):
    """Flips of none, of all, of each cluster alone, and some between."""
    many = len(plain_clusters(web, painting, mating))
    rows = [(), tuple(range(many)), tuple(range(0, many, 2)), tuple(range(1, many, 3))]
    return rows + [(at,) for at in range(many)][:8] + [(at,) for at in range(many)][-2:]


class TestIsFlips(unittest.TestCase):
    def test_all_short_rows(self):
        for web, painting, mating in small_samples(2, 3):
            many = len(plain_clusters(web, painting, mating))
            for long in range(4):
                for row in combinations(range(-1, many + 2), long):
                    self.assertIs(is_flips(web, painting, mating, row), all(0 <= at < many for at in row))

    def test_anything(self):
        for web, painting, mating in small_samples(1, 2):
            many = len(plain_clusters(web, painting, mating))
            things = ANYTHING + WRONG_FLIPS + spoiled(tuple(range(many))) + spoiled((0,)) + spoiled((0, 1)) + [(many,)]
            for thing in things:
                expected = plain_is_flips(web, painting, mating, thing)
                self.assertIs(is_flips(web, painting, mating, thing), expected, thing)
                if not expected:
                    with self.assertRaises(NoFlips):
                        flipped(web, painting, mating, thing)

    def test_wrong_of_two_clusters(self):
        # Two clusters: 0 and 1 are numbers, truths are none.
        self.assertEqual(len(clusters(STAR, (0, 1), (2,))), 2)
        for thing in ((), (0,), (1,), (0, 1)):
            self.assertIs(is_flips(STAR, (0, 1), (2,), thing), True)
        for thing in WRONG_FLIPS + [(2,), (0, 2), (0, True), (False, 1), [0, 1], (0, 1, 2)]:
            self.assertIs(is_flips(STAR, (0, 1), (2,), thing), False, thing)


class TestFlipped(unittest.TestCase):
    def test_by_hand(self):
        self.assertEqual(flipped(EMPTY, (), (), ()), ())
        self.assertEqual(flipped(STAR, (0, 1), (2,), ()), (0, 1))
        self.assertEqual(flipped(STAR, (0, 1), (2,), (0,)), (1, 2))
        self.assertEqual(flipped(STAR, (0, 1), (2,), (1,)), (0, 3))
        self.assertEqual(flipped(STAR, (0, 1), (2,), (0, 1)), (2, 3))
        self.assertEqual(flipped(EIGHT, (0,), (0,), (0,)), (1,))
        self.assertEqual(flipped(EIGHT, (0,), (1,), (0,)), (1,))

    def test_all_ways_of_all_their_strands(self):
        for web, painting, mating in all_samples():
            for flips in some_flips(web, painting, mating):
                self.assertEqual(flipped(web, painting, mating, flips), plain_flipped(web, painting, mating, flips))

    def test_a_painting_with_the_same_crossed_posts_and_clusters(self):
        for web, painting, mating in all_samples():
            for flips in some_flips(web, painting, mating):
                then = flipped(web, painting, mating, flips)
                self.assertTrue(plain_is_painting(web, then))
                self.assertEqual(crossed(web, then, mating), crossed(web, painting, mating))
                self.assertEqual(crossed(web, then, mating), plain_crossed(web, painting, mating))
                self.assertEqual(clusters(web, then, mating), clusters(web, painting, mating))
                self.assertEqual(flipped(web, then, mating, flips), painting)

    def test_one_behind_the_other(self):
        for web, painting, mating in all_samples():
            rows = some_flips(web, painting, mating)
            for one, other in list(zip(rows, rows[1:])) + [(rows[1], rows[2]), (rows[-1], rows[0])]:
                then = flipped(web, flipped(web, painting, mating, one), mating, other)
                back = flipped(web, flipped(web, painting, mating, other), mating, one)
                both = tuple(sorted(set(one) ^ set(other)))
                self.assertEqual(then, back)
                self.assertEqual(then, flipped(web, painting, mating, both))

    def test_of_none_of_all(self):
        for web, painting, mating in all_samples():
            many = len(clusters(web, painting, mating))
            self.assertEqual(flipped(web, painting, mating, ()), painting)
            bare = tuple(way for way in range(len(web[1])) if way not in painting)
            self.assertEqual(flipped(web, painting, mating, tuple(range(many))), bare)


class TestFlipsTo(unittest.TestCase):
    def test_between_all_paintings(self):
        met = set()
        for web, painting, mating in small_samples(2, 4):
            many = len(plain_clusters(web, painting, mating))
            led = {}
            for long in range(many + 1):
                for flips in combinations(range(many), long):
                    led[plain_flipped(web, painting, mating, flips)] = flips
            for other in plain_paintings(web)[:150]:
                told = flips_to(web, painting, mating, other)
                self.assertTrue(alike(told, led.get(other)), (web, painting, mating, other))
                met.add(type(told))
        self.assertEqual(met, {tuple, type(None)})

    def test_of_what_flips_make(self):
        for web, painting, mating in all_samples():
            for flips in some_flips(web, painting, mating):
                then = plain_flipped(web, painting, mating, flips)
                self.assertEqual(flips_to(web, painting, mating, then), flips)
                self.assertEqual(flips_to(web, then, mating, painting), flips)
            self.assertEqual(flips_to(web, painting, mating, painting), ())

    def test_one_way_otherwise_in_a_cluster(self):
        none = 0
        for web, painting, mating in middle_samples():
            for seed in range(5, 9):
                other = chance_painting(web, seed)
                unlike = set(painting) ^ set(other)
                lots = range(len(plain_clusters(web, painting, mating)))
                ways = [plain_cluster_ways(web, painting, mating, at) for at in lots]
                whole = tuple(at for at in lots if ways[at] <= unlike)
                expected = whole if set().union(*[ways[at] for at in whole]) == unlike else None
                self.assertEqual(flips_to(web, painting, mating, other), expected)
                none += expected is None
        self.assertGreater(none, 20)

    def test_a_cluster_that_is_unlike_in_part(self):
        # By its own mating the star's four ends are one cluster.
        self.assertEqual(clusters(STAR, (0, 1), (0,)), (("quiet", (0, 1)),))
        self.assertEqual(flips_to(STAR, (0, 1), (0,), (2, 3)), (0,))
        self.assertIsNone(flips_to(STAR, (0, 1), (0,), (0, 2)))
        self.assertIsNone(flips_to(STAR, (0, 1), (2,), (0, 2)))
        self.assertEqual(flips_to(STAR, (0, 1), (2,), (0, 3)), (1,))


class TestTurned(unittest.TestCase):
    def test_just_the_loud_clusters(self):
        loud = 0
        for web, painting, mating in all_samples():
            numbers = plain_loud(web, painting, mating)
            loud += len(numbers) > 0
            then = turned(web, painting, mating)
            self.assertEqual(then, plain_flipped(web, painting, mating, numbers))
            self.assertEqual(then, flipped(web, painting, mating, numbers))
            self.assertEqual(turned(web, then, mating), painting)
            still = is_still(web, painting, mating)
            self.assertIs(still, numbers == ())
            self.assertEqual(still, then == painting)
            self.assertIs(is_still(web, then, mating), still)
        self.assertGreater(loud, 50)

    def test_by_its_own_mating_it_stays(self):
        for web, painting, _ in all_samples():
            own = plain_own(web, painting)
            self.assertIs(is_still(web, painting, own), True)
            self.assertEqual(turned(web, painting, own), painting)

    def test_by_all_matings_of_a_board(self):
        words = set()
        for mating in plain_matings(BOARD):
            for painting in plain_paintings(BOARD)[::7]:
                numbers = plain_loud(BOARD, painting, mating)
                self.assertEqual(turned(BOARD, painting, mating), plain_flipped(BOARD, painting, mating, numbers))
                words.add(is_still(BOARD, painting, mating))
        self.assertEqual(words, {True, False})


class TestSixtyPosts(unittest.TestCase):
    def test_a_hundred_and_twenty_clusters(self):
        mating = (0,) * 60
        self.assertEqual(len(clusters(LOOPS, LOOPS_PAINTING, mating)), 60)
        mating = (2,) * 60
        self.assertEqual(len(clusters(LOOPS, LOOPS_PAINTING, mating)), 60)
        ends = (60, tuple((hand,) for hand in range(240)))
        painting = tuple(hand for hand in range(240) if hand % 4 < 2)
        self.assertEqual(len(clusters(ends, painting, mating)), 120)
        for flips in ((), tuple(range(120)), (119,), (0, 60, 119), tuple(range(0, 120, 2)), tuple(range(118))):
            self.assertIs(is_flips(ends, painting, mating, flips), True)
            then = flipped(ends, painting, mating, flips)
            strands = [hand for at in flips for hand in (4 * (at // 2) + at % 2, 4 * (at // 2) + at % 2 + 2)]
            self.assertEqual(then, tuple(sorted(set(painting) ^ set(strands))))
            self.assertEqual(flips_to(ends, painting, mating, then), flips)
        for flips in ((120,), (0, 120), (-1,), (119, 118), (10 ** 39,)):
            self.assertIs(is_flips(ends, painting, mating, flips), False)
            with self.assertRaises(NoFlips):
                flipped(ends, painting, mating, flips)
        self.assertIs(is_still(ends, painting, mating), True)
        self.assertEqual(turned(ends, painting, mating), painting)

    def test_one_loud_cluster_of_sixty_crossed_posts(self):
        for web in (LONG, ROUND):
            painting = chance_painting(web, 4)
            own = plain_own(web, painting)
            mating = tuple((at + 1) % 3 for at in own)
            self.assertEqual(plain_crossed(web, painting, mating), tuple(range(60)))
            then = turned(web, painting, mating)
            self.assertEqual(then, plain_flipped(web, painting, mating, plain_loud(web, painting, mating)))
            self.assertEqual(turned(web, then, mating), painting)


class TestRefusals(unittest.TestCase):
    def test_order(self):
        for ask, more in ((is_flips, (None,)), (flipped, (None,)), (flips_to, (None,)), (turned, ()), (is_still, ())):
            with self.assertRaises(NoWeb):
                ask(None, None, None, *more)
            with self.assertRaises(NoPainting):
                ask(EIGHT, None, None, *more)
            with self.assertRaises(NoMating):
                ask(EIGHT, (0,), None, *more)
        self.assertIs(is_flips(EIGHT, (0,), (0,), None), False)
        with self.assertRaises(NoFlips):
            flipped(EIGHT, (0,), (0,), None)
        with self.assertRaises(NoPainting):
            flips_to(EIGHT, (0,), (0,), None)

    def test_no_painting_of_other(self):
        for web in (STAR, LOOP_AND_ENDS, BOARD):
            painting = plain_paintings(web)[0]
            mating = plain_matings(web)[0]
            for thing in ANYTHING + spoiled(plain_paintings(web)[-1]):
                if not plain_is_painting(web, thing):
                    with self.assertRaises(NoPainting):
                        flips_to(web, painting, mating, thing)

    def test_the_web_of_no_posts(self):
        self.assertIs(is_flips(EMPTY, (), (), ()), True)
        self.assertIs(is_flips(EMPTY, (), (), (0,)), False)
        self.assertEqual(flips_to(EMPTY, (), (), ()), ())
        self.assertEqual(turned(EMPTY, (), ()), ())
        self.assertIs(is_still(EMPTY, (), ()), True)
        with self.assertRaises(NoFlips):
            flipped(EMPTY, (), (), (0,))


if __name__ == "__main__":
    unittest.main()
