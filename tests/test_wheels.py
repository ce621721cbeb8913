"""[28], [29]: wheels, what bars them; rims, places, ends by turns."""

import unittest
from random import Random

from plain_shapes import (
    SHAPES, chance_wheels, plain_bar, plain_is_by_turns, plain_made_matings, plain_made_painting, plain_over, plain_rims,
    plain_shape, shape_wheels,
)
from support import (
    ANYTHING, BIG_WEBS, EIGHT, EMPTY, LONG, LOOP_AND_ENDS, ROUND, SMALL_WEBS, STAR, necklace, plain_ends, plain_matings,
    plain_painted_ends, plain_paintings, random_mating, spoiled, web_of,
)
from tiewheel.paintings.paintings import is_painting
from tiewheel.webs.errors import NoEnds, NoHand, NoMating, NoNumber, NoPainting, NoWeb, TooWide
from tiewheel.wheels.wheels import (
    MOST_BORDER, MOST_CELL, MOST_FAR, barred_by, by_turns, end_behind, is_by_turns, is_wheel, place_of, rims_of,
)


def chain(many):
    """By the mating 2 borders go along, by 0 each post but the outer ones has cells with the next."""
    ways = [(0,), (1,), (4 * many - 2,), (4 * many - 1,)]
    return web_of(many, ways + [(4 * at + 2, 4 * at + 4) for at in range(many - 1)]
                  + [(4 * at + 3, 4 * at + 5) for at in range(many - 1)])


def samples():
    chance = Random(2)
    for web in SMALL_WEBS:
        rows = plain_matings(web)
        for _ in range(6):
            yield web, chance.choice(rows), chance.choice(rows)
    for web in BIG_WEBS[:6]:
        yield web, random_mating(1, web), random_mating(2, web)
        yield web, random_mating(3, web), random_mating(3, web)
    yield from shape_wheels()
    yield from chance_wheels(60)


class TestWheels(unittest.TestCase):
    def test_by_hand(self):
        self.assertEqual((repr(MOST_CELL), repr(MOST_BORDER), repr(MOST_FAR)), ("4", "3", "1" + "0" * 30))
        self.assertIsNone(barred_by(EMPTY, (), ()))
        self.assertIs(is_wheel(EMPTY, (), ()), True)
        self.assertIs(is_wheel(STAR, (0,), (0,)), True)
        # Cells of four ways and of five: round about necklaces.
        for many, bar in ((3, None), (4, None), (5, (0, 0)), (6, (0, 0))):
            first = (2,) * many
            self.assertEqual(barred_by(necklace(many), first, (0,) * many), bar)
            self.assertEqual(barred_by(necklace(many), (0,) * many, first), None if bar is None else (1, 0))
            self.assertIs(is_wheel(necklace(many), first, first), bar is None)
        # Borders of three ways and of four.
        for many, bar in ((1, None), (2, None), (3, (0, 0)), (4, (0, 0))):
            self.assertEqual(barred_by(chain(many), (2,) * many, (2,) * many), bar)
            self.assertEqual(barred_by(chain(many), (0,) * many, (2,) * many), None if bar is None else (1, 0))

    def test_the_least_number_of_the_first_mating_ahead(self):
        met = set()
        for web, first, second in samples():
            bar = plain_bar(web, first, second)
            self.assertEqual(repr(barred_by(web, first, second)), repr(bar))
            self.assertIs(is_wheel(web, first, second), bar is None)
            met.add(bar if bar is None else (bar[0], min(bar[1], 2)))
        self.assertTrue({None, (0, 0), (0, 1), (1, 0), (1, 1), (1, 2)} <= met, met)

    def test_strands_amid_others_bar(self):
        # A long border behind short ones, and a long cell.
        web = web_of(4, [(0, 1), (2,), (3,), (4,), (5,), (6, 8), (7, 9), (10, 12), (11, 13), (14,), (15,)])
        self.assertEqual(barred_by(web, (0, 2, 2, 2), (0, 0, 0, 0)), plain_bar(web, (0, 2, 2, 2), (0, 0, 0, 0)))
        self.assertEqual(barred_by(web, (0, 2, 2, 2), (0, 0, 0, 0)), (0, 2))
        self.assertEqual(barred_by(web, (0, 0, 0, 0), (0, 2, 2, 2)), (1, 2))

    def test_shapes_are_wheels(self):
        for shape in SHAPES:
            self.assertIs(is_wheel(plain_shape(shape), *plain_made_matings(shape)), True, shape)


class TestRims(unittest.TestCase):
    def test_by_hand(self):
        self.assertEqual(rims_of(STAR, (0,), (2,)), ((0, 1, 3, 2),))
        self.assertEqual(rims_of(STAR, (2,), (0,)), ((0, 2, 3, 1),))
        self.assertEqual(rims_of(STAR, (1,), (1,)), ((0, 3), (1, 2)))
        self.assertEqual(rims_of(EMPTY, (), ()), ())
        self.assertEqual(rims_of(EIGHT, (0,), (1,)), ())
        self.assertEqual(place_of(STAR, (0,), (2,), 3), (0, 2))
        self.assertEqual(place_of(STAR, (1,), (1,), 2), (1, 1))

    def test_of_any_two_matings(self):
        for web, first, second in samples():
            rims = plain_rims(web, first, second)
            self.assertEqual(rims_of(web, first, second), rims)
            self.assertEqual(sorted(end for rim in rims for end in rim), list(plain_ends(web)))
            for number, rim in enumerate(rims):
                self.assertEqual((rim[0], len(rim) % 2), (min(rim), 0))
                for place, end in enumerate(rim):
                    self.assertEqual(place_of(web, first, second, end), (number, place))

    def test_ends_behind_turn_by_turn(self):
        for web, first, second in list(samples())[::2]:
            for end in plain_ends(web)[:6]:
                for begin in (0, 1):
                    here = end
                    for turns in range(13):
                        self.assertEqual(end_behind(web, first, second, end, turns, begin=begin), here)
                        if begin == 0:
                            self.assertEqual(end_behind(web, first, second, end, turns), here)
                        here = plain_over(web, (first, second)[(turns + begin) % 2], here)

    def test_ends_behind_many_turns(self):
        for web, first, second in list(samples())[::3]:
            for rim in plain_rims(web, first, second):
                for begin in (0, 1):
                    for turns in (10 ** 30, 10 ** 30 - 1, 7 * len(rim), 10 ** 29 + 1):
                        near = end_behind(web, first, second, rim[-1], turns % len(rim), begin=begin)
                        self.assertEqual(end_behind(web, first, second, rim[-1], turns, begin=begin), near)
        # One by one in a rim of four: 10 ** 30 turns go round and round.
        self.assertEqual(end_behind(STAR, (0,), (2,), 1, 10 ** 30), 1)
        self.assertEqual(end_behind(STAR, (0,), (2,), 1, 10 ** 30 - 1), 3)
        self.assertEqual(end_behind(STAR, (0,), (2,), 1, 10 ** 30 - 1, begin=1), 0)

    def test_refusals(self):
        for hand in (-1, 4, True, None, "0", (0,), 10 ** 39):
            for ask, more in ((place_of, ()), (end_behind, (-1,))):
                with self.assertRaises(NoHand) as caught:
                    ask(STAR, (0,), (2,), hand, *more)
                self.assertIs(caught.exception.hand, hand)
        for hand in (0, 2):
            for ask, more in ((place_of, ()), (end_behind, (None,))):
                with self.assertRaises(NoEnds):
                    ask(LOOP_AND_ENDS, (0,), (2,), hand, *more)
        for turns in (-1, 10 ** 30 + 1, True, False, None, "1", (1,), 10 ** 39):
            with self.assertRaises(NoNumber) as caught:
                end_behind(STAR, (0,), (2,), 0, turns, begin=2)
            self.assertIs(caught.exception.number, turns)
        for begin in (2, -1, True, False, None, "0", (), 10 ** 39):
            with self.assertRaises(NoNumber) as caught:
                end_behind(STAR, (0,), (2,), 0, 10 ** 30, begin=begin)
            self.assertIs(caught.exception.number, begin)

    def test_order(self):
        for ask, more in ((barred_by, 0), (is_wheel, 0), (rims_of, 0), (place_of, 1), (end_behind, 2), (is_by_turns, 1)):
            with self.assertRaises(NoWeb):
                ask(None, None, None, *[None] * more)
            with self.assertRaises(NoMating):
                ask(STAR, None, (0,), *[None] * more)
            with self.assertRaises(NoMating):
                ask(STAR, (0,), None, *[None] * more)
        with self.assertRaises(NoPainting):
            is_by_turns(STAR, (0,), (2,), None)
        with self.assertRaises(NoMating):
            by_turns(STAR, (0,), None, painted=None)


class TestByTurns(unittest.TestCase):
    def test_against_a_plain_look(self):
        met = set()
        for web, first, second in samples():
            if web[0] <= 4:
                for painting in plain_paintings(web)[:40]:
                    wanted = plain_is_by_turns(web, first, second, painting)
                    self.assertIs(is_by_turns(web, first, second, painting), wanted)
                    met.add(wanted)
        self.assertEqual(met, {True, False})

    def test_painted_rims(self):
        found = missed = 0
        for web, first, second in samples():
            rims = plain_rims(web, first, second)
            if web[0] > 4 or len(rims) > 4:
                continue
            ends = {row: plain_painted_ends(web, row) for row in plain_paintings(web)}
            for number in range(2 ** len(rims)):
                painted = tuple(at for at in range(len(rims)) if number >> at & 1)
                wanted = sorted(end for at, rim in enumerate(rims) for end in rim[0 if at in painted else 1::2])
                told = by_turns(web, first, second, painted=painted)
                if any(row == tuple(wanted) for row in ends.values()):
                    self.assertTrue(is_painting(web, told))
                    self.assertEqual(ends[told], tuple(wanted))
                    self.assertIs(is_by_turns(web, first, second, told), True)
                    found += 1
                else:
                    self.assertIsNone(told)
                    missed += 1
                if not painted:
                    self.assertEqual(by_turns(web, first, second) is None, told is None)
        self.assertGreater(min(found, missed), 20)

    def test_none_some_and_all_rims_of_large_wheels(self):
        for shape in (("board", 7, 7), ("tube", 6, 10), ("tube", 15, 4)):
            web, (first, second) = plain_shape(shape), plain_made_matings(shape)
            rims = plain_rims(web, first, second)
            ends = plain_painted_ends(web, plain_made_painting(shape))
            painted = tuple(at for at, rim in enumerate(rims) if rim[0] in ends)
            told = by_turns(web, first, second, painted=painted)
            self.assertEqual(plain_painted_ends(web, told), ends)
            for row in ((), tuple(range(len(rims))), (0,)):
                told = by_turns(web, first, second, painted=row)
                if told is not None:
                    self.assertEqual([at for at, rim in enumerate(rims) if rim[0] in plain_painted_ends(web, told)], list(row))

    def test_webs_without_ends_and_without_posts(self):
        self.assertEqual(by_turns(EMPTY, (), ()), ())
        self.assertIs(is_by_turns(EMPTY, (), (), ()), True)
        self.assertIs(is_by_turns(EIGHT, (0,), (1,), (0,)), True)
        self.assertIn(by_turns(EIGHT, (0,), (1,)), ((0,), (1,)))

    def test_no_number(self):
        right = [(), (0,), (1,), (0, 1)]
        for thing in ANYTHING + spoiled((0, 1)) + [(0, 2), (1, 0), (0, 0), (2,), (-1,)]:
            if repr(thing) not in [repr(row) for row in right]:
                with self.assertRaises(NoNumber) as caught:
                    by_turns(STAR, (1,), (1,), painted=thing)
                self.assertIs(caught.exception.number, thing)
        for painted in right:
            told = by_turns(STAR, (1,), (1,), painted=painted)
            self.assertEqual([end in told for end in (0, 1)], [0 in painted, 1 in painted])
        with self.assertRaises(NoNumber):
            by_turns(EMPTY, (), (), painted=(0,))

    def test_too_wide(self):
        shape = ("torus", 6, 10, 2)
        with self.assertRaises(TooWide) as caught:
            by_turns(plain_shape(shape), *plain_made_matings(shape))
        self.assertEqual(repr(caught.exception.most), "4000")
        with self.assertRaises(NoNumber):
            by_turns(plain_shape(shape), *plain_made_matings(shape), painted=(0,))

    def test_sixty_posts(self):
        for web in (LONG, ROUND):
            self.assertIsNotNone(barred_by(web, (2,) * 60, (0,) * 60))
            self.assertIsNone(barred_by(web, (0,) * 60, (0,) * 60))
        self.assertEqual(rims_of(LONG, (0,) * 60, (2,) * 60), plain_rims(LONG, (0,) * 60, (2,) * 60))


if __name__ == "__main__":
    unittest.main()
