"""[6]: strands, cells, borders, over."""

import unittest

from support import (
    ANYTHING, BIG_WEBS, BOARD, EIGHT, EMPTY, FOUR_WAYS, LONG, LOOP_AND_ENDS, ROUND, SMALL_WEBS, STAR, alike,
    plain_across, plain_ends, plain_mate, plain_matings, plain_strands, random_mating, spoiled,
)
from tiewheel.matings.strands import is_cell, over, shows_strand, strand_at, strands_of
from tiewheel.webs.errors import NoEnds, NoHand, NoNumber


def samples():
    for web in SMALL_WEBS:
        for mating in plain_matings(web)[:30]:
            yield web, mating
    for web in BIG_WEBS:
        yield web, random_mating(3, web)


class TestStrands(unittest.TestCase):
    def test_strands_by_hand(self):
        self.assertEqual(strands_of(EMPTY, ()), ())
        self.assertEqual(strands_of(EIGHT, (0,)), ((0, 1), (2, 3)))
        self.assertEqual(strands_of(EIGHT, (1,)), ((0, 3, 2, 1),))
        self.assertEqual(strands_of(EIGHT, (2,)), ((0, 2, 3, 1),))
        self.assertEqual(strands_of(STAR, (1,)), ((0, 3), (1, 2)))
        self.assertEqual(strands_of(LOOP_AND_ENDS, (0,)), ((1, 0, 2, 3),))
        self.assertEqual(strands_of(LOOP_AND_ENDS, (2,)), ((0, 2), (1, 3)))
        self.assertEqual(strands_of(FOUR_WAYS, (0, 1)), ((0, 1, 5, 6, 2, 3, 7, 4),))

    def test_a_border_goes_from_its_lesser_end(self):
        self.assertEqual(
            strands_of(BOARD, (0, 1, 1, 0)),
            ((0, 1, 7, 4), (3, 2, 8, 11), (5, 6, 12, 13), (10, 9, 15, 14)),
        )
        self.assertEqual(
            strands_of(BOARD, (1, 0, 0, 1)),
            ((0, 3), (1, 2, 8, 9, 15, 12, 6, 7), (4, 5), (10, 11), (13, 14)),
        )

    def test_against_plain_strands(self):
        for web, mating in samples():
            strands = strands_of(web, mating)
            self.assertEqual(strands, plain_strands(web, mating))
            ends = plain_ends(web)
            for number, row in enumerate(strands):
                self.assertIs(is_cell(web, mating, number), row[0] not in ends)
                for hand in row[:8]:
                    self.assertEqual(strand_at(web, mating, hand), number)
            self.assertEqual(sorted(sum(strands, ())), list(range(4 * web[0])))

    def test_hands_of_a_strand(self):
        for web, mating in samples():
            across = plain_across(web)
            for row in strands_of(web, mating):
                self.assertTrue(all(plain_mate(mating, one) == two for one, two in zip(row[::2], row[1::2])))
                self.assertTrue(all(across[one] == two for one, two in zip(row[1::2], row[2::2])))
                self.assertIn((across[row[0]], across[row[-1]]), ((row[-1], row[0]), (None, None)))

    def test_over(self):
        self.assertEqual([over(STAR, (2,), end) for end in range(4)], [2, 3, 0, 1])
        for web, mating in samples():
            for row in plain_strands(web, mating):
                if row[0] in plain_ends(web):
                    self.assertEqual(over(web, mating, row[0]), row[-1])
                    self.assertEqual(over(web, mating, row[-1]), row[0])

    def test_over_refuses_no_hand_ahead_of_no_end(self):
        for hand in (-1, 4, True, None, "1", (1,), [], 10 ** 39):
            with self.assertRaises(NoHand) as caught:
                over(LOOP_AND_ENDS, (0,), hand)
            self.assertIs(caught.exception.hand, hand)
        for hand in (0, 2):
            with self.assertRaises(NoEnds):
                over(LOOP_AND_ENDS, (0,), hand)

    def test_is_cell_of_no_number(self):
        for number in (2, -1, True, None, "0", [0], (), 10 ** 39):
            with self.assertRaises(NoNumber) as caught:
                is_cell(EIGHT, (0,), number)
            self.assertIs(caught.exception.number, number)
        with self.assertRaises(NoNumber):
            is_cell(EMPTY, (), 0)

    def test_shows_strand(self):
        for web in SMALL_WEBS:
            for mating in plain_matings(web)[:9]:
                strands = plain_strands(web, mating)
                wrong = [thing for row in strands for thing in spoiled(row) + [row[2:] + row[:2]]]
                for thing in list(strands) + ANYTHING + wrong:
                    expected = any(alike(thing, row) for row in strands)
                    self.assertIs(shows_strand(web, mating, thing), expected, thing)

    def test_strands_of_sixty_posts(self):
        self.assertEqual(len(strands_of(LONG, (0,) * 60)), 61)
        self.assertEqual(len(strands_of(LONG, (2,) * 60)), 2)
        self.assertEqual(strands_of(ROUND, (2,) * 60)[0][:4], (0, 2, 4, 6))
        for row in strands_of(LONG, (2,) * 60):
            self.assertIs(shows_strand(LONG, (2,) * 60, row), True)
            self.assertIs(shows_strand(LONG, (2,) * 60, row[::-1]), False)


if __name__ == "__main__":
    unittest.main()
