"""[3]: webs, hands, ways, ends, and what is across."""

import unittest

from support import (
    ANYTHING, APART, BIG_WEBS, BOARD, EIGHT, EMPTY, LONG, LOOP_AND_ENDS, NESTED, ROUND, SMALL_WEBS, STAR, ladder,
    plain_across, plain_ends, plain_is_web, plain_way, spoiled, web_of,
)
from tiewheel.webs.errors import NoHand, NoNumber
from tiewheel.webs.webs import HANDS, MOST_POSTS, across, ends_of, is_web, way_of, ways_at


class TestWebs(unittest.TestCase):
    def test_constants(self):
        self.assertEqual((MOST_POSTS, HANDS), (60, 4))

    def test_webs_are_webs(self):
        for web in SMALL_WEBS + BIG_WEBS:
            self.assertIs(is_web(web), True)

    def test_anything_else_is_none(self):
        for thing in ANYTHING:
            with self.subTest(thing=thing):
                self.assertIs(is_web(thing), False)

    def test_what_is_much_like_a_web(self):
        for web in (EMPTY, STAR, EIGHT, NESTED, LOOP_AND_ENDS, BOARD, APART):
            for thing in spoiled(web):
                self.assertIs(is_web(thing), plain_is_web(thing), thing)

    def test_at_most_sixty_posts(self):
        self.assertIs(is_web(ladder(60)), True)
        self.assertIs(is_web(ladder(61)), False)
        self.assertIs(is_web((60, tuple((hand,) for hand in range(240)))), True)
        self.assertIs(is_web((61, tuple((hand,) for hand in range(244)))), False)

    def test_ways_stand_rising_with_the_lesser_hand_ahead(self):
        self.assertIs(is_web((1, ((0, 3), (1,), (2,)))), True)
        self.assertIs(is_web((1, ((3, 0), (1,), (2,)))), False)
        self.assertIs(is_web((1, ((0, 3), (2,), (1,)))), False)
        self.assertIs(is_web((1, ((0, 0), (1,), (2,), (3,)))), False)
        self.assertIs(is_web((1, ((0,), (0,), (1,), (2,), (3,)))), False)

    def test_across_and_way_of_each_hand(self):
        for web in SMALL_WEBS + [LONG, ROUND]:
            table = plain_across(web)
            for hand in range(4 * web[0]):
                self.assertEqual(across(web, hand), table[hand])
                self.assertEqual(way_of(web, hand), plain_way(web, hand))

    def test_across_by_hand(self):
        self.assertEqual([across(LOOP_AND_ENDS, hand) for hand in range(4)], [2, None, 0, None])
        self.assertEqual([way_of(LOOP_AND_ENDS, hand) for hand in range(4)], [0, 1, 0, 2])
        self.assertIsNone(across(STAR, 0))

    def test_ends(self):
        self.assertEqual(ends_of(EMPTY), ())
        self.assertEqual(ends_of(EIGHT), ())
        self.assertEqual(ends_of(STAR), (0, 1, 2, 3))
        self.assertEqual(ends_of(LOOP_AND_ENDS), (1, 3))
        self.assertEqual(ends_of(BOARD), (0, 3, 4, 5, 10, 11, 13, 14))
        for web in SMALL_WEBS + BIG_WEBS:
            self.assertEqual(ends_of(web), plain_ends(web))

    def test_ways_at_a_post(self):
        self.assertEqual(ways_at(LOOP_AND_ENDS, 0), (0, 1, 0, 2))
        self.assertEqual(ways_at(NESTED, 0), (0, 1, 1, 0))
        for web in SMALL_WEBS + BIG_WEBS:
            for post in range(web[0]):
                self.assertEqual(ways_at(web, post), tuple(plain_way(web, 4 * post + at) for at in range(4)))

    def test_hands_and_posts_beyond_and_below(self):
        for web in (EMPTY, EIGHT, LONG):
            for hand in (-1, 4 * web[0], -4 * web[0] - 1, 10 ** 39):
                for asked in (across, way_of):
                    with self.assertRaises(NoHand) as caught:
                        asked(web, hand)
                    self.assertIs(caught.exception.hand, hand)
            for post in (-1, web[0], -web[0] - 1, 10 ** 39, None, True):
                with self.assertRaises(NoNumber) as caught:
                    ways_at(web, post)
                self.assertIs(caught.exception.number, post)

    def test_two_ways_may_join_the_same_posts(self):
        web = web_of(2, [(0, 4), (1, 5), (2, 3), (6, 7)])
        self.assertIs(is_web(web), True)
        self.assertEqual(ways_at(web, 1), (0, 1, 3, 3))


if __name__ == "__main__":
    unittest.main()
