"""[16]: tracks of ties and rings."""

import unittest

from plain_deeds import (
    chance_painting, is_tie, large_samples, middle_samples, plain_crossed, plain_lines, plain_track, plain_walked,
    small_samples,
)
from support import (
    BOARD, EIGHT, EMPTY, LONG, LOOP_AND_ENDS, NESTED, ROUND, STAR, necklace, plain_mate, plain_matings, plain_own,
    plain_paintings, plain_strands, random_mating,
)
from tiewheel.clusters.crossed import crossed
from tiewheel.heirs.tracks import track_of
from tiewheel.lines.lines import lines_of
from tiewheel.webs.errors import NoMating, NoNumber, NoPainting, NoWeb


def all_samples():
    return list(small_samples()) + list(middle_samples()) + list(large_samples())


class TestTracks(unittest.TestCase):
    def test_by_hand(self):
        # Ways 0 and 1 painted: the tie 0-1 passes the post, which the mating 2 has crossed, 0 with 2, 1 with 3.
        self.assertEqual(lines_of(STAR, (0, 1)), (("bare", (2, 3)), ("painted", (0, 1))))
        self.assertEqual([track_of(STAR, (0, 1), (2,), number) for number in (0, 1)], [(0, 1), (0, 1)])
        self.assertEqual([track_of(STAR, (0, 1), (1,), number) for number in (0, 1)], [(0, 1), (0, 1)])
        self.assertEqual([track_of(STAR, (0, 1), (0,), number) for number in (0, 1)], [(), ()])
        # A ring of one post: a way of two of its hands.
        self.assertEqual([track_of(EIGHT, (0,), (1,), number) for number in (0, 1)], [(0, 1), (0, 1)])
        self.assertEqual([track_of(EIGHT, (0,), (0,), number) for number in (0, 1)], [(), ()])
        self.assertEqual([track_of(NESTED, (0,), (2,), number) for number in (0, 1)], [(0, 1), (0, 1)])

    def test_a_tie_from_the_end_from_which_it_is_less(self):
        # From the end 1 on, by hand 1 then 0: the corners are (1, 2) and (0, 3), told from the other end.
        web = (1, ((0,), (1,), (2, 3)))
        self.assertEqual(lines_of(web, (0, 1)), (("bare", (2, 3)), ("painted", (0, 1))))
        self.assertEqual(track_of(web, (0, 1), (1,), 1), (0, 1))
        turned = 0
        for web, painting, mating in all_samples():
            for number, (_, row) in enumerate(plain_lines(web, painting)):
                if is_tie(web, row):
                    walked = tuple(hand for step in plain_walked(web, painting, mating, row) for hand in step)
                    told = track_of(web, painting, mating, number)
                    self.assertEqual(told, min(walked, walked[::-1]))
                    turned += told != walked
        self.assertGreater(turned, 20)

    def test_each_line_of_each_sample(self):
        rings = set()
        for web, painting, mating in all_samples():
            for number, (_, row) in enumerate(plain_lines(web, painting)):
                told = track_of(web, painting, mating, number)
                self.assertEqual(told, plain_track(web, painting, mating, row), (web, painting, mating, number))
                self.assertIsInstance(told, tuple)
                if not is_tie(web, row):
                    rings.add(len(told) // 2)
        self.assertTrue({0, 1, 2, 3, 4} <= rings, rings)

    def test_empty_just_where_the_line_is_a_whole_strand(self):
        for web, painting, mating in all_samples():
            strands = plain_strands(web, mating)
            posts = crossed(web, painting, mating)
            for number, (_, row) in enumerate(plain_lines(web, painting)):
                told = track_of(web, painting, mating, number)
                self.assertEqual(told == (), row in strands)
                self.assertEqual(told == (), not any(hand // 4 in posts for hand in row))

    def test_each_crossed_post_once_by_each_kind(self):
        for web, painting, mating in all_samples():
            for kind in ("painted", "bare"):
                met = []
                for number, (word, _) in enumerate(plain_lines(web, painting)):
                    met += track_of(web, painting, mating, number) if word == kind else ()
                corners = [4 * post + at for post in plain_crossed(web, painting, mating) for at in range(4)]
                lesser = [hand for hand in corners if hand < plain_mate(mating, hand)]
                self.assertEqual(sorted(met), lesser)

    def test_by_its_own_mating_all_are_empty(self):
        for web, painting, _ in all_samples():
            own = plain_own(web, painting)
            self.assertTrue(all(track_of(web, painting, own, at) == () for at in range(len(plain_lines(web, painting)))))


class TestRings(unittest.TestCase):
    def test_the_same_post_of_a_painted_and_a_bare_ring(self):
        for web in (EIGHT, NESTED):
            for painting in plain_paintings(web):
                for mating in plain_matings(web):
                    tracks = {track_of(web, painting, mating, number) for number in (0, 1)}
                    own = mating == plain_own(web, painting)
                    self.assertEqual(tracks, {()} if own else {(0, 2) if mating == (0,) else (0, 1)})

    def test_the_least_from_each_crossed_post_either_way_round(self):
        # A painted ring through three posts, and a bare one beside it.
        web = necklace(3)
        painting = (0, 2, 4)
        seen = set()
        for painting in plain_paintings(web):
            for mating in plain_matings(web):
                for number, (_, row) in enumerate(plain_lines(web, painting)):
                    told = track_of(web, painting, mating, number)
                    steps = plain_walked(web, painting, mating, row)
                    back = [step[::-1] for step in steps[::-1]]
                    rows = [sum(way[at:] + way[:at], ()) for way in (steps, back) for at in range(len(way))]
                    self.assertEqual(told, min(rows, default=()))
                    seen.add((len(told), told in rows[len(steps):], told in rows[:len(steps)]))
        self.assertTrue({(2, True, False), (6, True, False), (6, False, True), (4, False, True)} <= seen, seen)

    def test_a_ring_through_sixty_posts(self):
        web = ROUND
        painting = tuple(number for number, way in enumerate(web[1]) if way[0] % 2 == 0)
        lines = plain_lines(web, painting)
        self.assertEqual([len(row) for _, row in lines], [120, 120])
        for mating in ((0,) * 60, (1,) * 60, (0, 1) * 30, (0, 2) * 30, random_mating(7, web)):
            many = len(plain_crossed(web, painting, mating))
            for number in (0, 1):
                told = track_of(web, painting, mating, number)
                self.assertEqual(told, plain_track(web, painting, mating, lines[number][1]))
                self.assertEqual(len(told), 2 * many)
                self.assertTrue(not told or told[0] == min(told))

    def test_a_tie_through_sixty_posts(self):
        painting = tuple(number for number, way in enumerate(LONG[1]) if way[0] % 2 == 0)
        for mating in ((0,) * 60, (1,) * 60, (0, 1) * 30, random_mating(7, LONG)):
            for number, (_, row) in enumerate(plain_lines(LONG, painting)):
                self.assertEqual(track_of(LONG, painting, mating, number), plain_track(LONG, painting, mating, row))


class TestRefusals(unittest.TestCase):
    def test_order(self):
        with self.assertRaises(NoWeb):
            track_of(None, None, None, None)
        with self.assertRaises(NoPainting):
            track_of(EIGHT, None, None, None)
        with self.assertRaises(NoMating):
            track_of(EIGHT, (0,), None, None)
        for number in (None, -1, 2, True, False, "0", (0,), [0], 10 ** 39):
            with self.assertRaises(NoNumber) as caught:
                track_of(EIGHT, (0,), (0,), number)
            self.assertIs(caught.exception.number, number)

    def test_no_lines_number(self):
        for web in (EMPTY, STAR, LOOP_AND_ENDS, BOARD, LONG, ROUND):
            painting = chance_painting(web, 0)
            many = len(plain_lines(web, painting))
            for number in (many, -1, -many, 240):
                with self.assertRaises(NoNumber):
                    track_of(web, painting, plain_own(web, painting), number)


if __name__ == "__main__":
    unittest.main()
