"""[33]: near ones of a painting, how many, by number."""

import unittest
from itertools import combinations

from plain_deeds import middle_samples, plain_clusters, plain_flipped, small_samples
from support import (
    ANYTHING, EIGHT, EMPTY, LONG, LOOP_AND_ENDS, ROUND, STAR, alike, ladder, plain_paintings, spoiled,
)
from tiewheel.clusters.flips import flips_to
from tiewheel.counts.near import MOST_NEAR, many_near, near_at, near_number, near_of
from tiewheel.webs.errors import NoMating, NoNumber, NoPainting, NoWeb, TooWide


def plain_near(web, painting, mating):
    """Flips of all choices of quiet clusters."""
    quiet = [at for at, (word, _) in enumerate(plain_clusters(web, painting, mating)) if word == "quiet"]
    rows = [row for many in range(len(quiet) + 1) for row in combinations(quiet, many)]
    return tuple(sorted(plain_flipped(web, painting, mating, row) for row in rows))


def quiet_many(web, painting, mating):
    return len([word for word, _ in plain_clusters(web, painting, mating) if word == "quiet"])


def along(web):
    """All posts crossed by the mating 0, and a quiet cell between each two of them."""
    return tuple(number for number, way in enumerate(web[1]) if way[0] % 2 == 0)


class TestNear(unittest.TestCase):
    def test_by_hand(self):
        self.assertEqual(repr(MOST_NEAR), "400")
        self.assertEqual(near_of(STAR, (0, 1), (2,)), ((0, 1), (0, 3), (1, 2), (2, 3)))
        self.assertEqual(near_of(STAR, (0, 1), (0,)), ((0, 1), (2, 3)))
        self.assertEqual(near_of(EMPTY, (), ()), ((),))
        self.assertEqual((many_near(EMPTY, (), ()), near_at(EMPTY, (), (), 0), near_number(EMPTY, (), (), ())), (1, (), 0))
        self.assertEqual(near_at(STAR, (2, 3), (2,), 1), (0, 3))
        self.assertEqual(near_number(STAR, (2, 3), (2,), (1, 2)), 2)

    def test_against_flips_of_all_choices(self):
        sizes = set()
        for web, painting, mating in list(small_samples(3, 5)) + list(middle_samples(3)):
            many = quiet_many(web, painting, mating)
            self.assertEqual(many_near(web, painting, mating), 2 ** many)
            if many > 8:
                continue
            wanted = plain_near(web, painting, mating)
            self.assertEqual(len(wanted), 2 ** many)
            self.assertEqual(near_of(web, painting, mating), wanted)
            for number, other in enumerate(wanted):
                self.assertEqual(near_at(web, painting, mating, number), other)
                self.assertEqual(near_number(web, painting, mating, other), number)
                self.assertEqual(near_of(web, other, mating), wanted)
            for other in plain_paintings(web) if web[0] <= 3 else ():
                if other not in wanted:
                    with self.assertRaises(NoPainting):
                        near_number(web, painting, mating, other)
            sizes.add(many)
        self.assertTrue({0, 1, 2, 3} <= sizes, sizes)

    def test_however_many(self):
        for web in (LONG, ROUND):
            painting, mating = along(web), (0,) * 60
            many = 2 ** quiet_many(web, painting, mating)
            self.assertEqual(many_near(web, painting, mating), many)
            self.assertGreater(many, 2 ** 58)
            with self.assertRaises(TooWide) as caught:
                near_of(web, painting, mating)
            self.assertEqual(repr(caught.exception.most), "400")
            told = []
            for number in (0, 1, 2, 5, many // 3, many // 2, many - 2, many - 1):
                other = near_at(web, painting, mating, number)
                self.assertEqual(near_number(web, painting, mating, other), number)
                self.assertIsNotNone(flips_to(web, painting, mating, other))
                told.append(other)
            self.assertEqual(told, sorted(told))
            self.assertEqual(near_at(web, painting, mating, near_number(web, painting, mating, painting)), painting)

    def test_eight_quiet_clusters_and_nine(self):
        for many in range(1, 12):
            web = ladder(many)
            painting, mating = along(web), (0,) * many
            self.assertEqual(quiet_many(web, painting, mating), many + 1)
            if many <= 7:
                wanted = plain_near(web, painting, mating)
                self.assertEqual(near_of(web, painting, mating), wanted)
                for number in range(0, 2 ** (many + 1), 5):
                    self.assertEqual(near_at(web, painting, mating, number), wanted[number])
                    self.assertEqual(near_number(web, painting, mating, wanted[number]), number)
            else:
                with self.assertRaises(TooWide) as caught:
                    near_of(web, painting, mating)
                self.assertEqual(caught.exception.most, 400)

    def test_loud_clusters_are_not_flipped(self):
        loud = 0
        for web, painting, mating in list(small_samples(3, 5)) + list(middle_samples(2)):
            for at, (word, _) in enumerate(plain_clusters(web, painting, mating)):
                if word == "loud":
                    with self.assertRaises(NoPainting):
                        near_number(web, painting, mating, plain_flipped(web, painting, mating, (at,)))
                    loud += 1
        self.assertGreater(loud, 20)

    def test_numbers(self):
        for number in (-1, 4, 10 ** 39, True, False, None, "1", (1,)):
            with self.assertRaises(NoNumber) as caught:
                near_at(STAR, (0, 1), (2,), number)
            self.assertIs(caught.exception.number, number)

    def test_no_painting_of_the_other(self):
        right = near_of(STAR, (0, 1), (2,))
        for thing in ANYTHING + spoiled((0, 1)):
            if any(alike(thing, row) for row in right):
                near_number(STAR, (0, 1), (2,), thing)
            else:
                with self.assertRaises(NoPainting):
                    near_number(STAR, (0, 1), (2,), thing)

    def test_order(self):
        for ask, more in ((many_near, ()), (near_of, ()), (near_at, (None,)), (near_number, (None,))):
            with self.assertRaises(NoWeb):
                ask(None, None, None, *more)
            with self.assertRaises(NoPainting):
                ask(EIGHT, None, None, *more)
            with self.assertRaises(NoMating):
                ask(EIGHT, (0,), None, *more)
            if ask is not near_number:
                with self.assertRaises(NoMating):
                    ask(LOOP_AND_ENDS, (0,), (0, 0), *more)


if __name__ == "__main__":
    unittest.main()
