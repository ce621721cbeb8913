"""[5]: matings, mates, corners, the third."""

import unittest

from support import (
    ANYTHING, BIG_WEBS, BOARD, EIGHT, EMPTY, FOUR_WAYS, LONG, SMALL_WEBS, alike, plain_mate, plain_matings,
    random_mating, spoiled,
)
from tiewheel.matings.matings import MATINGS, corners_of, is_mating, mate, third


class TestMatings(unittest.TestCase):
    def test_constant(self):
        self.assertEqual(MATINGS, 3)

    def test_all_three_pairings(self):
        self.assertEqual([mate(EIGHT, (0,), hand) for hand in range(4)], [1, 0, 3, 2])
        self.assertEqual([mate(EIGHT, (1,), hand) for hand in range(4)], [3, 2, 1, 0])
        self.assertEqual([mate(EIGHT, (2,), hand) for hand in range(4)], [2, 3, 0, 1])

    def test_corners(self):
        self.assertEqual(corners_of(EIGHT, (0,)), ((0, 1), (2, 3)))
        self.assertEqual(corners_of(EIGHT, (1,)), ((0, 3), (1, 2)))
        self.assertEqual(corners_of(EIGHT, (2,)), ((0, 2), (1, 3)))
        self.assertEqual(corners_of(FOUR_WAYS, (2, 1)), ((0, 2), (1, 3), (4, 7), (5, 6)))
        self.assertEqual(corners_of(EMPTY, ()), ())

    def test_mates_and_corners_of_large_webs(self):
        for web in BIG_WEBS:
            mating = random_mating(1, web)
            mates = [mate(web, mating, hand) for hand in range(4 * web[0])]
            self.assertEqual(mates, [plain_mate(mating, hand) for hand in range(4 * web[0])])
            pairs = sorted({tuple(sorted(pair)) for pair in enumerate(mates)})
            self.assertEqual(corners_of(web, mating), tuple(pairs))

    def test_third(self):
        self.assertEqual(third(BOARD, (0, 0, 1, 2), (1, 0, 2, 0)), (2, 0, 0, 1))
        self.assertEqual(third(BOARD, (1, 2, 1, 2), (0, 1, 1, 2)), (2, 0, 1, 2))
        self.assertEqual(third(EMPTY, (), ()), ())
        for web in SMALL_WEBS:
            for one in plain_matings(web)[:30]:
                for other in plain_matings(web)[-30:]:
                    made = third(web, one, other)
                    self.assertEqual(third(web, other, one), made)
                    for first, second, last in zip(one, other, made):
                        self.assertEqual(len({first, second, last}), 1 if first == second else 3)

    def test_is_mating(self):
        for web in SMALL_WEBS:
            right = plain_matings(web)
            self.assertTrue(all(is_mating(web, mating) is True for mating in right))
            for thing in ANYTHING + spoiled(right[-1]) + spoiled(right[0]):
                expected = any(alike(thing, mating) for mating in right)
                self.assertIs(is_mating(web, thing), expected, thing)

    def test_edges(self):
        self.assertIs(is_mating(EMPTY, ()), True)
        self.assertIs(is_mating(EIGHT, (3,)), False)
        self.assertIs(is_mating(EIGHT, (-1,)), False)
        self.assertIs(is_mating(EIGHT, (True,)), False)
        self.assertIs(is_mating(EIGHT, [0]), False)
        self.assertIs(is_mating(LONG, (2,) * 60), True)
        self.assertIs(is_mating(LONG, (2,) * 59), False)
        self.assertIs(is_mating(LONG, (2,) * 61), False)


if __name__ == "__main__":
    unittest.main()
