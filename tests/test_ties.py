"""[11]: ties, tied ends, and which line a tie is."""

import unittest

from support import (
    ANYTHING, BIG_WEBS, BOARD, EIGHT, EMPTY, LONG, LOOP_AND_ENDS, SMALL_WEBS, STAR, plain_ends, plain_own,
    plain_painted_hands, plain_paintings, plain_strands, spoiled,
)
from tiewheel.lines.lines import lines_of
from tiewheel.lines.ties import tie_at, tied, ties_of
from tiewheel.paintings.fronts import painting_at
from tiewheel.paintings.rounds import painted_by_couples
from tiewheel.webs.errors import NoEnds, NoHand, NoLine


def some_painting(web):
    ends = plain_ends(web)
    return painted_by_couples(web, tuple(zip(ends[::2], ends[1::2])))


def samples():
    for web in SMALL_WEBS:
        for painting in plain_paintings(web)[:40]:
            yield web, painting
    for web in BIG_WEBS:
        yield web, some_painting(web)
    for number in (1, 5 ** 24):
        yield LONG, painting_at(LONG, number)


def plain_ties(web, painting, kinds):
    hands = plain_painted_hands(web, painting)
    rows = [row for row in plain_strands(web, plain_own(web, painting)) if row[0] in plain_ends(web)]
    return tuple(sorted((row[0], row[-1]) for row in rows if (row[0] in hands) in kinds))


class TestTies(unittest.TestCase):
    def test_by_hand(self):
        self.assertEqual(ties_of(EMPTY, ()), ())
        self.assertEqual(ties_of(EIGHT, (0,)), ())
        self.assertEqual(ties_of(STAR, (1, 2)), ((0, 3), (1, 2)))
        self.assertEqual(ties_of(STAR, (1, 2), kind="both"), ((0, 3), (1, 2)))
        self.assertEqual(ties_of(STAR, (1, 2), kind="painted"), ((1, 2),))
        self.assertEqual(ties_of(STAR, (1, 2), kind="bare"), ((0, 3),))
        self.assertEqual([tied(STAR, (1, 2), end) for end in range(4)], [3, 2, 1, 0])
        self.assertEqual([tie_at(STAR, (1, 2), end) for end in range(4)], [0, 1, 1, 0])
        self.assertEqual(tied(LOOP_AND_ENDS, (0,), 3), 1)
        self.assertEqual(ties_of(LOOP_AND_ENDS, (0,), kind="painted"), ())

    def test_against_plain_ties(self):
        for web, painting in samples():
            self.assertEqual(ties_of(web, painting), plain_ties(web, painting, (True, False)))
            self.assertEqual(ties_of(web, painting, kind="both"), plain_ties(web, painting, (True, False)))
            self.assertEqual(ties_of(web, painting, kind="painted"), plain_ties(web, painting, (True,)))
            self.assertEqual(ties_of(web, painting, kind="bare"), plain_ties(web, painting, (False,)))

    def test_tied_and_tie_at(self):
        for web, painting in samples():
            lines = lines_of(web, painting)
            for pair in plain_ties(web, painting, (True, False)):
                for one, other in (pair, pair[::-1]):
                    self.assertEqual(tied(web, painting, one), other)
                    row = lines[tie_at(web, painting, one)][1]
                    self.assertEqual((row[0], row[-1]), pair)
            many = len(plain_ends(web))
            self.assertEqual(len(ties_of(web, painting)) * 2, many)

    def test_other_kinds(self):
        for kind in ANYTHING + spoiled("painted") + spoiled("bare") + spoiled("both"):
            if kind not in ("painted", "bare", "both"):
                with self.assertRaises(NoLine):
                    ties_of(BOARD, painting_at(BOARD, 0), kind=kind)

    def test_no_hand_ahead_of_no_end(self):
        for asked in (tied, tie_at):
            for hand in (-1, 4, True, None, "1", [1], (), 10 ** 39):
                with self.assertRaises(NoHand) as caught:
                    asked(LOOP_AND_ENDS, (0,), hand)
                self.assertIs(caught.exception.hand, hand)
            for hand in (0, 2):
                with self.assertRaises(NoEnds):
                    asked(LOOP_AND_ENDS, (0,), hand)
            with self.assertRaises(NoHand):
                asked(EMPTY, (), 0)


if __name__ == "__main__":
    unittest.main()
