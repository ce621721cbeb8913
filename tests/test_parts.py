"""[4]: parts, their webs, their ways."""

import unittest

from support import APART, BIG_WEBS, BOARD, EIGHT, EMPTY, LONG, ROUND, SMALL_WEBS, beside, plain_across
from tiewheel.webs.errors import NoNumber
from tiewheel.webs.parts import part_ways, part_web, parts_of
from tiewheel.webs.webs import is_web


def plain_parts(web):
    """Lots of posts, put together until no way leads from one lot to another."""
    lots = {post: {post} for post in range(web[0])}
    for hand, other in plain_across(web).items():
        if other is not None:
            both = lots[hand // 4] | lots[other // 4]
            for post in both:
                lots[post] = both
    return tuple(sorted({tuple(sorted(lot)) for lot in lots.values()}))


class TestParts(unittest.TestCase):
    def test_parts_amid_one_another(self):
        self.assertEqual(parts_of(APART), ((0, 2), (1, 3)))
        self.assertEqual(part_ways(APART, 0), (0, 1, 2, 3))
        self.assertEqual(part_ways(APART, 1), (4, 5, 6, 7, 8))
        self.assertEqual(part_web(APART, 0), (2, ((0, 4), (1, 5), (2, 6), (3, 7))))
        self.assertEqual(part_web(APART, 1), (2, ((0, 4), (1, 5), (2,), (3,), (6, 7))))

    def test_webs_of_one_part(self):
        for web in (EIGHT, BOARD, LONG, ROUND):
            self.assertEqual(parts_of(web), (tuple(range(web[0])),))
            self.assertEqual(part_web(web, 0), web)
            self.assertEqual(part_ways(web, 0), tuple(range(len(web[1]))))

    def test_posts_by_themselves(self):
        web = beside(EIGHT, EIGHT, EIGHT)
        self.assertEqual(parts_of(web), ((0,), (1,), (2,)))
        self.assertEqual([part_web(web, number) for number in range(3)], [EIGHT] * 3)
        self.assertEqual([part_ways(web, number) for number in range(3)], [(0, 1), (2, 3), (4, 5)])

    def test_no_posts(self):
        self.assertEqual(parts_of(EMPTY), ())
        for asked in (part_web, part_ways):
            with self.assertRaises(NoNumber) as caught:
                asked(EMPTY, 0)
            self.assertEqual(caught.exception.number, 0)

    def test_against_plain_lots(self):
        for web in SMALL_WEBS + BIG_WEBS:
            parts = parts_of(web)
            self.assertEqual(parts, plain_parts(web))
            for number, posts in enumerate(parts):
                ways = part_ways(web, number)
                part = part_web(web, number)
                self.assertEqual(ways, tuple(at for at, way in enumerate(web[1]) if way[0] // 4 in posts))
                self.assertTrue(is_web(part))
                self.assertEqual(part[0], len(posts))
                back = tuple(tuple(4 * posts[hand // 4] + hand % 4 for hand in way) for way in part[1])
                self.assertEqual(back, tuple(web[1][way] for way in ways))

    def test_numbers_beyond(self):
        for asked in (part_web, part_ways):
            for number in (-1, 2, True, "0", None, (0,)):
                with self.assertRaises(NoNumber) as caught:
                    asked(APART, number)
                self.assertIs(caught.exception.number, number)


if __name__ == "__main__":
    unittest.main()
