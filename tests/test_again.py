"""[31]: rounds, and the painting behind so many turns, by any two matings."""

import unittest
from functools import lru_cache
from random import Random

from plain_deeds import chance_painting, near_own, plain_behind, plain_loud
from plain_shapes import plain_made_matings, plain_made_painting, plain_shape, plain_turns, wheels_by_turns
from support import (
    BIG_WEBS, EIGHT, EMPTY, LONG, ROUND, SMALL_WEBS, STAR, board, plain_matings, plain_own, random_mating, random_web,
)
from tiewheel.webs.errors import NoMating, NoNumber, NoPainting, NoWeb, TooFar
from tiewheel.wheels.again import MOST_BEATS, painting_behind, round_of
from tiewheel.wheels.far import beats_of


@lru_cache(maxsize=None)
def samples():
    chance = Random(12)
    rows = []
    for web in SMALL_WEBS:
        matings = plain_matings(web)
        for seed in range(2):
            rows.append((web, chance.choice(matings), chance.choice(matings), chance_painting(web, seed)))
    for web in [board(2, 3), board(3, 3), board(3, 4)] + [random_web(seed, 10, 8) for seed in range(400, 420)]:
        painting = chance_painting(web, 1)
        rows.append((web, random_mating(1, web), random_mating(2, web), painting))
        rows.append((web, near_own(web, painting, 1), random_mating(3, web), painting))
        own = plain_own(web, painting)
        rows.append((web, tuple((at + 1) % 3 for at in own), tuple((at + chance.choice((0, 1, 2))) % 3 for at in own), painting))
    return rows


def plain_round(web, first, second, painting, most, begin=0):
    here = painting
    for beats in range(1, most + 1):
        here = plain_turns(web, first, second, here, 2, begin)
        if here == painting:
            return beats
    return None


class TestRounds(unittest.TestCase):
    def test_by_hand(self):
        self.assertEqual(repr(MOST_BEATS), "1000")
        self.assertEqual(round_of(EMPTY, (), (), ()), 1)
        self.assertEqual(painting_behind(EMPTY, (), (), (), 10 ** 30), ())
        self.assertEqual(round_of(STAR, (0,), (2,), (0, 1)), 1)
        shape = ("board", 7, 7)
        self.assertEqual(round_of(plain_shape(shape), *plain_made_matings(shape), plain_made_painting(shape)), 7)

    def test_against_turns_one_by_one(self):
        met = set()
        for web, first, second, painting in samples():
            wanted = plain_round(web, first, second, painting, 60)
            if wanted is None:
                with self.assertRaises(TooFar):
                    round_of(web, first, second, painting, most=60)
                continue
            met.add(wanted)
            self.assertEqual(repr(round_of(web, first, second, painting)), repr(wanted))
            self.assertEqual(plain_round(web, first, second, painting, 60, 1), wanted)
            self.assertEqual(round_of(web, second, first, painting), wanted)
            self.assertEqual(round_of(web, first, second, painting, most=wanted), wanted)
            if wanted > 1:
                with self.assertRaises(TooFar):
                    round_of(web, first, second, painting, most=wanted - 1)
        self.assertTrue({1, 2, 3, 4, 6} <= met, met)

    def test_in_wheels_rounds_are_multiples_of_the_ties_beats(self):
        for web, first, second, painting in wheels_by_turns():
            told = round_of(web, first, second, painting)
            self.assertEqual(told % beats_of(web, first, second, painting), 0)

    def test_long_rounds(self):
        web, (first, second) = plain_shape(("torus", 1, 20, 1)), plain_made_matings(("torus", 1, 20, 1))
        painting = chance_painting(web, 1)
        self.assertEqual(plain_round(web, first, second, painting, 20), 10)
        self.assertEqual(round_of(web, first, second, painting), 10)
        # Of sixty posts it is looked at as the painting behind so many turns.
        web, (first, second) = plain_shape(("tube", 6, 10)), plain_made_matings(("tube", 6, 10))
        painting = chance_painting(web, 0)
        told = round_of(web, first, second, painting)
        self.assertGreater(told, 300)
        self.assertEqual(painting_behind(web, first, second, painting, 2 * told), painting)
        self.assertEqual(painting_behind(web, first, second, painting, 2 * told * 10 ** 20), painting)
        for beats in [beats for beats in range(1, told) if told % beats == 0] + [1, 2, 7, 100, told - 1]:
            self.assertNotEqual(painting_behind(web, first, second, painting, 2 * beats), painting)
        for most in (1, 30, told - 1):
            with self.assertRaises(TooFar):
                round_of(web, first, second, painting, most=most)
        self.assertEqual(round_of(web, first, second, painting, most=told), told)


class TestBehind(unittest.TestCase):
    def test_turns_one_by_one(self):
        moved = 0
        for web, first, second, painting in samples():
            for begin in (0, 1):
                here = painting
                for turns in range(13):
                    self.assertEqual(painting_behind(web, first, second, painting, turns, begin=begin), here)
                    if turns <= 2:
                        self.assertEqual(painting_behind(web, first, second, painting, turns, begin=begin, most=1), here)
                    moved += here != painting
                    here = plain_behind(web, here, ("turn", (first, second)[(turns + begin) % 2]))
        self.assertGreater(moved, 500)

    def test_of_up_to_twice_most_turns_whatever_the_round(self):
        met = 0
        for web, first, second, painting in samples():
            told = plain_round(web, first, second, painting, 60)
            if told is None or told < 3:
                continue
            for most in (1, told - 1):
                for turns in (2 * most - 1, 2 * most):
                    wanted = plain_turns(web, first, second, painting, turns)
                    self.assertEqual(painting_behind(web, first, second, painting, turns, most=most), wanted)
                for turns in (2 * most + 1, 2 * told, 2 * told + 1, 10 ** 30):
                    for begin in (0, 1):
                        with self.assertRaises(TooFar):
                            painting_behind(web, first, second, painting, turns, begin=begin, most=most)
            met += 1
        self.assertGreater(met, 8)

    def test_of_many_turns(self):
        for web, first, second, painting in samples():
            told = plain_round(web, first, second, painting, 60)
            if told is None:
                continue
            for begin in (0, 1):
                for turns in (10 ** 30, 10 ** 30 - 1, 2 * told, 2 * told + 1, 6 * told + 3, 10 ** 20 + 7):
                    wanted = plain_turns(web, first, second, painting, turns % (2 * told), begin)
                    for most in (told, 1000):
                        self.assertEqual(painting_behind(web, first, second, painting, turns, begin=begin, most=most), wanted)

    def test_one_behind_another(self):
        for web, first, second, painting in samples()[::3]:
            here = painting_behind(web, first, second, painting, 7)
            self.assertEqual(painting_behind(web, first, second, here, 5, begin=1),
                             painting_behind(web, first, second, painting, 12))

    def test_sixty_posts(self):
        for web in BIG_WEBS[:5]:
            painting = chance_painting(web, 1)
            first, second = random_mating(4, web), tuple((at + 1) % 3 for at in plain_own(web, painting))
            for turns in (1, 2, 5):
                for begin in (0, 1):
                    self.assertEqual(painting_behind(web, first, second, painting, turns, begin=begin),
                                     plain_turns(web, first, second, painting, turns, begin))

    def test_loud_clusters_of_many_strands(self):
        met = 0
        for web, first, second, painting in samples():
            met += len(plain_loud(web, painting, first)) > 0
        self.assertGreater(met, 20)


class TestRefusals(unittest.TestCase):
    def test_order(self):
        for ask, more in ((round_of, ()), (painting_behind, (None,))):
            named = {"most": 0} if ask is round_of else {"most": 0, "begin": 2}
            with self.assertRaises(NoWeb):
                ask(None, None, None, None, *more, **named)
            for matings in ((None, (0,)), ((0,), None)):
                with self.assertRaises(NoMating):
                    ask(EIGHT, *matings, None, *more, **named)
            with self.assertRaises(NoPainting):
                ask(EIGHT, (0,), (0,), None, *more, **named)

    def test_numbers(self):
        for turns in (-1, 10 ** 30 + 1, True, False, None, "1", (), 10 ** 39):
            with self.assertRaises(NoNumber) as caught:
                painting_behind(EIGHT, (0,), (0,), (0,), turns, begin=2, most=0)
            self.assertIs(caught.exception.number, turns)
        for begin in (2, -1, True, False, None, "0"):
            with self.assertRaises(NoNumber) as caught:
                painting_behind(EIGHT, (0,), (0,), (0,), 0, begin=begin, most=0)
            self.assertIs(caught.exception.number, begin)
        for most in (0, -1, 1001, True, False, None, "1", (1,), 10 ** 39):
            with self.assertRaises(NoNumber) as caught:
                round_of(EIGHT, (0,), (0,), (0,), most=most)
            self.assertIs(caught.exception.number, most)
            with self.assertRaises(NoNumber) as caught:
                painting_behind(EIGHT, (0,), (0,), (0,), 0, most=most)
            self.assertIs(caught.exception.number, most)
        for most in (1, 2, 999, 1000):
            self.assertEqual(round_of(ROUND, (2,) * 60, (2,) * 60, chance_painting(ROUND, 1), most=most), 1)
            self.assertEqual(len(painting_behind(LONG, (2,) * 60, (2,) * 60, chance_painting(LONG, 1), 10 ** 30, most=most)),
                             len(chance_painting(LONG, 1)))


if __name__ == "__main__":
    unittest.main()
