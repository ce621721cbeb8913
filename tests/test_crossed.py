"""[12] and, of [13], which strands are loud."""

import unittest

from support import (
    BIG_WEBS, EIGHT, EMPTY, FOUR_WAYS, LONG, ROUND, SMALL_WEBS, STAR, ladder, necklace, plain_ends, plain_matings,
    plain_own, plain_painted_hands, plain_paintings, plain_strands, random_mating,
)
from test_ties import some_painting
from tiewheel.clusters.crossed import crossed, crossed_corners, is_loud
from tiewheel.paintings.fronts import painting_at
from tiewheel.webs.errors import NoNumber


def samples():
    for web in SMALL_WEBS:
        for painting in plain_paintings(web)[:8]:
            for mating in plain_matings(web)[:40]:
                yield web, painting, mating
    for web in BIG_WEBS:
        for seed in range(3):
            yield web, some_painting(web), random_mating(seed, web)


def plain_crossed_corners(web, painting, row):
    """Those of which one hand is painted, one bare."""
    hands = plain_painted_hands(web, painting)
    return tuple(at for at in range(len(row) // 2) if (row[2 * at] in hands) != (row[2 * at + 1] in hands))


class TestCrossed(unittest.TestCase):
    def test_by_hand(self):
        self.assertEqual(crossed(EMPTY, (), ()), ())
        self.assertEqual([crossed(EIGHT, (0,), (mating,)) for mating in range(3)], [(), (0,), (0,)])
        self.assertEqual(crossed(FOUR_WAYS, (0, 1), (0, 1)), (1,))
        self.assertEqual(crossed(FOUR_WAYS, (0, 1), (2, 0)), (0,))
        self.assertEqual(crossed_corners(EIGHT, (0,), (0,), 0), ())
        self.assertEqual(crossed_corners(EIGHT, (0,), (1,), 0), (0, 1))
        self.assertEqual(crossed_corners(STAR, (0, 1), (1,), 1), (0,))

    def test_crossed_posts_have_unlike_hands_in_each_corner(self):
        for web, painting, mating in samples():
            rows = plain_strands(web, mating)
            posts = {row[2 * at] // 4 for row in rows for at in plain_crossed_corners(web, painting, row)}
            self.assertEqual(crossed(web, painting, mating), tuple(sorted(posts)))
            own = plain_own(web, painting)
            self.assertEqual(posts, {post for post in range(web[0]) if own[post] != mating[post]})
            for number, row in enumerate(rows):
                corners = plain_crossed_corners(web, painting, row)
                self.assertEqual(crossed_corners(web, painting, mating, number), corners)
                most = 1 if row[0] in plain_ends(web) else 2
                self.assertIs(is_loud(web, painting, mating, number), len(corners) > most)

    def test_a_painting_crosses_nothing_by_its_own_mating(self):
        for web, painting, _ in samples():
            self.assertEqual(crossed(web, painting, plain_own(web, painting)), ())

    def loud_borders(self, posts):
        """Whether both borders of a ladder are loud, straight on through its posts, each of them crossed."""
        web = ladder(posts)
        ways = {hand: number for number, way in enumerate(web[1]) for hand in way}
        hands = [4 * post + at for post in range(posts) for at in ((0, 1) if post % 2 == 0 else (2, 3))]
        painting = tuple(sorted({ways[hand] for hand in hands}))
        mating = (2,) * posts
        corners = [crossed_corners(web, painting, mating, number) for number in (0, 1)]
        self.assertEqual(corners, [tuple(range(posts))] * 2)
        return [is_loud(web, painting, mating, number) for number in (0, 1)]

    def test_a_border_with_one_crossed_corner_is_quiet_with_two_loud(self):
        self.assertEqual(self.loud_borders(1), [False, False])
        self.assertEqual(self.loud_borders(2), [True, True])
        self.assertEqual(self.loud_borders(3), [True, True])

    def loud_cells(self, posts):
        web = necklace(posts)
        painting = tuple(number for number, way in enumerate(web[1]) if way[0] // 4 % 2 == 0 and way[0] % 4 in (2, 3))
        mating = (2,) * posts
        corners = [crossed_corners(web, painting, mating, number) for number in (0, 1)]
        self.assertEqual(corners, [tuple(range(posts))] * 2)
        return [is_loud(web, painting, mating, number) for number in (0, 1)]

    def test_a_cell_with_two_crossed_corners_is_quiet_with_four_loud(self):
        self.assertEqual(self.loud_cells(2), [False, False])
        self.assertEqual(self.loud_cells(4), [True, True])

    def test_sixty_posts(self):
        painting = painting_at(LONG, 0)
        own = plain_own(LONG, painting)
        self.assertEqual(crossed(LONG, painting, own), ())
        other = tuple((mating + 1) % 3 for mating in own)
        self.assertEqual(crossed(LONG, painting, other), tuple(range(60)))
        self.assertEqual(crossed(LONG, painting, own[:59] + other[59:]), (59,))
        painting = painting_at(ROUND, 2)
        self.assertEqual(crossed(ROUND, painting, plain_own(ROUND, painting)), ())

    def test_no_strands_number(self):
        for asked in (crossed_corners, is_loud):
            for number in (-1, 2, True, None, "0", [0], (), 10 ** 39):
                with self.assertRaises(NoNumber) as caught:
                    asked(EIGHT, (0,), (0,), number)
                self.assertIs(caught.exception.number, number)
            with self.assertRaises(NoNumber):
                asked(EIGHT, (0,), (1,), 1)
            with self.assertRaises(NoNumber):
                asked(EMPTY, (), (), 0)


if __name__ == "__main__":
    unittest.main()
