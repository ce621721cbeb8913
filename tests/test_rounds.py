"""[8]: paintings in which coupled ends are alike."""

import unittest
from itertools import permutations
from random import Random

from support import (
    ANYTHING, BIG_WEBS, BOARD, EIGHT, EMPTY, LONG, LOOP_AND_ENDS, SMALL_WEBS, STAR, alike, plain_ends,
    plain_painted_hands, plain_paintings, random_web, spoiled,
)
from tiewheel.paintings.paintings import is_painting
from tiewheel.paintings.rounds import painted_by_couples
from tiewheel.webs.errors import NoEnds


def random_couples(seed, web):
    chance = Random(seed)
    ends = list(plain_ends(web))
    chance.shuffle(ends)
    return tuple((ends[at], ends[at + 1]) for at in range(0, len(ends), 2))


def all_couples(ends):
    return {tuple((row[at], row[at + 1]) for at in range(0, len(row), 2)) for row in permutations(ends)}


class TestRounds(unittest.TestCase):
    def check(self, web, couples):
        painting = painted_by_couples(web, couples)
        self.assertIs(is_painting(web, painting), True)
        hands = plain_painted_hands(web, painting)
        for one, other in couples:
            self.assertEqual(one in hands, other in hands)
        return painting

    def test_without_ends(self):
        self.assertEqual(painted_by_couples(EMPTY, ()), ())
        self.assertIn(painted_by_couples(EIGHT, ()), ((0,), (1,)))
        for web in SMALL_WEBS:
            if not plain_ends(web):
                self.assertIn(self.check(web, ()), plain_paintings(web))

    def test_all_couples_of_a_star(self):
        self.assertEqual(len(all_couples((0, 1, 2, 3))), 24)
        for couples in all_couples((0, 1, 2, 3)):
            self.assertEqual(painted_by_couples(STAR, couples), painted_by_couples(STAR, couples))
            self.check(STAR, couples)

    def test_any_order_turned_either_way(self):
        for web in SMALL_WEBS:
            if len(plain_ends(web)) <= 6:
                for couples in all_couples(plain_ends(web)):
                    self.assertIn(self.check(web, couples), plain_paintings(web))

    def test_sixty_posts(self):
        for web in BIG_WEBS:
            for seed in range(8):
                self.check(web, random_couples(seed, web))
        every_hand = (60, tuple((hand,) for hand in range(240)))
        for seed in range(4):
            self.check(every_hand, random_couples(seed, every_hand))

    def test_many_webs(self):
        for seed in range(200, 260):
            web = random_web(seed, 30, 40)
            self.check(web, random_couples(seed, web))

    def refused(self, web, couples):
        with self.assertRaises(NoEnds):
            painted_by_couples(web, couples)

    def test_no_couples_of_all_ends(self):
        self.refused(STAR, ())
        self.refused(STAR, ((0, 1),))
        self.refused(STAR, ((0, 1), (2, 3), (0, 1)))
        self.refused(STAR, ((0, 1), (1, 3)))
        self.refused(STAR, ((0, 0), (1, 1), (2, 2), (3, 3)))
        self.refused(STAR, ((0, 0), (2, 3)))
        self.refused(STAR, ((0, 1), (2, 4)))
        self.refused(STAR, ((0, 1), (2, -1)))
        self.refused(STAR, ((0, 1, 2, 3),))
        self.refused(STAR, ((0, 1), (2,), (3,)))
        self.refused(STAR, ((False, True), (2, 3)))
        self.refused(STAR, [(0, 1), (2, 3)])
        self.refused(STAR, ([0, 1], [2, 3]))
        self.refused(STAR, ((0, 1), (2, 3), ()))
        self.refused(LOOP_AND_ENDS, ((1, 3), (0, 2)))
        self.refused(LOOP_AND_ENDS, ((0, 1), (2, 3)))
        self.refused(EMPTY, ((0, 1),))
        self.refused(EIGHT, ((0, 1), (2, 3)))
        self.refused(LONG, ((0, 1),))

    def test_of_anything(self):
        for thing in ANYTHING:
            self.refused(STAR, thing)
            if thing != ():
                self.refused(EMPTY, thing)
                self.refused(EIGHT, thing)
        right = all_couples(plain_ends(STAR))
        for couples in sorted(right)[:3]:
            for thing in spoiled(couples):
                if not any(alike(thing, couples) for couples in right):
                    self.refused(STAR, thing)
        board_couples = random_couples(1, BOARD)
        self.check(BOARD, board_couples)
        self.refused(BOARD, board_couples[1:])
        self.refused(BOARD, board_couples + board_couples[:1])


if __name__ == "__main__":
    unittest.main()
