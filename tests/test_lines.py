"""[10]: lines, rings, the ways along."""

import unittest

from support import (
    ANYTHING, EIGHT, EMPTY, LONG, LOOP_AND_ENDS, ROUND, SMALL_WEBS, STAR, alike, plain_ends, plain_own,
    plain_painted_hands, plain_paintings, plain_strands, plain_way, spoiled,
)
from tiewheel.lines.lines import BOTH, is_ring, line_at, lines_of, rings_of, shows_line, ways_along
from tiewheel.paintings.fronts import painting_at
from tiewheel.webs.errors import NoHand, NoLine, NoNumber


def plain_lines(web, painting):
    hands = plain_painted_hands(web, painting)
    rows = plain_strands(web, plain_own(web, painting))
    return tuple(sorted(("painted" if row[0] in hands else "bare", row) for row in rows))


def samples():
    for web in SMALL_WEBS:
        for painting in plain_paintings(web)[:40]:
            yield web, painting
    for number in (0, 7 ** 20):
        yield LONG, painting_at(LONG, number)
        yield ROUND, painting_at(ROUND, number)


class TestLines(unittest.TestCase):
    def test_by_hand(self):
        self.assertEqual(BOTH, "both")
        self.assertEqual(lines_of(EMPTY, ()), ())
        self.assertEqual(lines_of(EIGHT, (0,)), (("bare", (2, 3)), ("painted", (0, 1))))
        self.assertEqual(lines_of(EIGHT, (1,)), (("bare", (0, 1)), ("painted", (2, 3))))
        self.assertEqual(lines_of(LOOP_AND_ENDS, (0,)), (("bare", (1, 3)), ("painted", (0, 2))))
        self.assertEqual(lines_of(STAR, (0, 3)), (("bare", (1, 2)), ("painted", (0, 3))))

    def test_against_plain_lines(self):
        for web, painting in samples():
            lines = lines_of(web, painting)
            self.assertEqual(lines, plain_lines(web, painting))
            for number, (_, row) in enumerate(lines):
                self.assertIs(is_ring(web, painting, number), row[0] not in plain_ends(web))
                self.assertTrue(all(line_at(web, painting, hand) == number for hand in row[:6]))

    def test_rings_of_each_kind(self):
        for web, painting in samples():
            lines = plain_lines(web, painting)
            rings = [number for number, (_, row) in enumerate(lines) if row[0] not in plain_ends(web)]
            self.assertEqual(rings_of(web, painting), tuple(rings))
            self.assertEqual(rings_of(web, painting, kind=BOTH), tuple(rings))
            for kind in ("painted", "bare"):
                alone = tuple(number for number in rings if lines[number][0] == kind)
                self.assertEqual(rings_of(web, painting, kind=kind), alone)
        self.assertEqual(rings_of(EIGHT, (0,)), (0, 1))
        self.assertEqual(rings_of(EIGHT, (0,), kind="painted"), (1,))
        self.assertEqual(rings_of(EIGHT, (0,), kind="bare"), (0,))
        self.assertEqual(rings_of(LOOP_AND_ENDS, (0,), kind="bare"), ())

    def test_other_kinds(self):
        for kind in ANYTHING + spoiled("painted") + spoiled("bare") + spoiled("both"):
            if kind not in ("painted", "bare", "both"):
                with self.assertRaises(NoLine):
                    rings_of(EIGHT, (0,), kind=kind)

    def test_ways_along(self):
        self.assertEqual([ways_along(EIGHT, (0,), number) for number in (0, 1)], [(1,), (0,)])
        self.assertEqual([ways_along(LOOP_AND_ENDS, (0,), number) for number in (0, 1)], [(1, 2), (0,)])
        for web, painting in samples():
            lines = plain_lines(web, painting)
            met = []
            for number, (kind, row) in enumerate(lines):
                ways = ways_along(web, painting, number)
                met += ways
                self.assertTrue(all((way in painting) == (kind == "painted") for way in ways))
                along = [plain_way(web, hand) for hand in row[1::2]]
                if row[0] in plain_ends(web):
                    self.assertEqual(ways, (plain_way(web, row[0]), *along))
                    self.assertEqual(web[1][ways[0]], (row[0],))
                    self.assertEqual(web[1][ways[-1]], (row[-1],))
                else:
                    self.assertEqual(ways, tuple(along))
                    self.assertEqual(set(web[1][ways[-1]]), {row[0], row[-1]})
            self.assertEqual(sorted(met), list(range(len(web[1]))))

    def test_a_ring_and_a_tie_of_several_posts(self):
        # Two posts joined twice; the outer hands are ends, or joined.
        web = (2, ((0,), (1,), (2, 4), (3, 5), (6,), (7,)))
        self.assertEqual(lines_of(web, (2, 3)), (("bare", (0, 1)), ("bare", (6, 7)), ("painted", (2, 3, 5, 4))))
        self.assertEqual(ways_along(web, (2, 3), 2), (3, 2))
        self.assertEqual(lines_of(web, (0, 2, 4)), (("bare", (1, 3, 5, 7)), ("painted", (0, 2, 4, 6))))
        self.assertEqual([ways_along(web, (0, 2, 4), number) for number in (0, 1)], [(1, 3, 5), (0, 2, 4)])
        self.assertEqual(rings_of(web, (2, 3)), (2,))
        self.assertEqual(rings_of(web, (2, 3), kind="bare"), ())

    def test_two_lines_pass_at_each_post(self):
        for web, painting in samples():
            for post in range(web[0]):
                through = [line_at(web, painting, hand) for hand in range(4 * post, 4 * post + 4)]
                self.assertEqual(sorted(through.count(line) for line in through), [2] * 4)

    def test_shows_line(self):
        for web in SMALL_WEBS[:18]:
            for painting in plain_paintings(web)[:6]:
                lines = plain_lines(web, painting)
                wrong = [thing for line in lines for thing in spoiled(line)]
                wrong += [("bare" if kind == "painted" else "painted", row) for kind, row in lines]
                for thing in list(lines) + ANYTHING + wrong:
                    expected = any(alike(thing, line) for line in lines)
                    self.assertIs(shows_line(web, painting, thing), expected, thing)

    def test_shows_line_of_sixty_posts(self):
        for web in (LONG, ROUND):
            painting = painting_at(web, 7 ** 20)
            for kind, row in plain_lines(web, painting):
                self.assertIs(shows_line(web, painting, (kind, row)), True)
                self.assertIs(shows_line(web, painting, (kind, row[::-1])), False)

    def test_no_numbers_no_hands(self):
        for asked in (ways_along, is_ring):
            for number in (-1, 2, True, None, "0", [0], 10 ** 39):
                with self.assertRaises(NoNumber) as caught:
                    asked(EIGHT, (0,), number)
                self.assertIs(caught.exception.number, number)
            with self.assertRaises(NoNumber):
                asked(EMPTY, (), 0)
        for hand in (-1, 4, True, None, "0", [0]):
            with self.assertRaises(NoHand) as caught:
                line_at(EIGHT, (0,), hand)
            self.assertIs(caught.exception.hand, hand)


if __name__ == "__main__":
    unittest.main()
