"""[17]: heirs and where ends have gone; [2]: rings and ties are kept by any row of deeds that keep."""

import unittest
from random import Random

from plain_deeds import (
    MIDDLE_WEBS, OTHER, chance_keeping_deed, chance_painting, is_tie, keeping_deeds, large_samples, middle_samples,
    plain_behind, plain_clusters, plain_first_loud, plain_gone, plain_heirs, plain_lines, plain_loud, plain_track,
    small_samples,
)
from support import (
    ANYTHING, BIG_WEBS, BOARD, EIGHT, EMPTY, LONG, ROUND, SMALL_WEBS, STAR, board, ladder, plain_ends, plain_matings,
    plain_own, plain_paintings, plain_strands,
)
from tiewheel.clusters.flips import is_still
from tiewheel.heirs.deeds import behind, keeps
from tiewheel.heirs.heirs import gone, heirs
from tiewheel.heirs.tracks import track_of
from tiewheel.lines.lines import lines_of, rings_of
from tiewheel.lines.ties import ties_of
from tiewheel.matings.strands import over
from tiewheel.webs.errors import Loud, NoDeeds, NoPainting, NoWeb


def all_samples():
    return list(small_samples()) + list(middle_samples()) + list(large_samples())


class TestByHand(unittest.TestCase):
    def test_a_star(self):
        # Tie 0-1 painted, 2-3 bare; the borders of the mating 2 are 0-2 and 1-3, both quiet.
        self.assertEqual(heirs(STAR, (0, 1), ("flip", (2,), (0,))), ((0, (0, 3)), (1, (2, 1))))
        self.assertEqual(lines_of(STAR, (1, 2)), (("bare", (0, 3)), ("painted", (1, 2))))
        self.assertEqual(gone(STAR, (0, 1), ("flip", (2,), (0,))), ((0, 2), (1, 1), (2, 0), (3, 3)))
        # It is still by that mating: a turn leaves the painting, each line's heir is of the other kind.
        self.assertIs(is_still(STAR, (0, 1), (2,)), True)
        self.assertEqual(heirs(STAR, (0, 1), ("turn", (2,))), ((1, (0, 1)), (0, (2, 3))))
        self.assertEqual(gone(STAR, (0, 1), ("turn", (2,))), ((0, 2), (1, 3), (2, 0), (3, 1)))
        # By its own mating each line is a whole strand.
        self.assertEqual(heirs(STAR, (0, 1), ("turn", (0,))), ((0, (2, 3)), (1, (0, 1))))
        self.assertEqual(gone(STAR, (0, 1), ("turn", (0,))), ((0, 0), (1, 1), (2, 2), (3, 3)))
        self.assertEqual(heirs(STAR, (0, 1), ("flip", (0,), (0,))), ((1, (2, 3)), (0, (0, 1))))
        self.assertEqual(heirs(STAR, (0, 1), ("bare",)), ((1, (2, 3)), (0, (0, 1))))
        self.assertEqual(gone(STAR, (0, 1), ("bare",)), ((0, 0), (1, 1), (2, 2), (3, 3)))
        self.assertEqual(heirs(STAR, (0, 1), ("flip", (2,), ())), ((0, (2, 3)), (1, (0, 1))))

    def test_rings(self):
        for deed in (("bare",), ("flip", (0,), (0,)), ("turn", (1,)), ("turn", (2,))):
            self.assertEqual(heirs(EIGHT, (0,), deed), ((1, ()), (0, ())))
        for deed in (("turn", (0,)), ("flip", (1,), ()), ("flip", (0,), ())):
            self.assertEqual(heirs(EIGHT, (0,), deed), ((0, ()), (1, ())))
        # By the mating 1 both ways are one cell, with both crossed corners: one quiet cluster.
        self.assertEqual(behind(EIGHT, (0,), ("flip", (1,), (0,))), (1,))
        self.assertEqual(heirs(EIGHT, (0,), ("flip", (1,), (0,))), ((0, ()), (1, ())))

    def test_a_turn_that_paints_no_loud_border_leaves_its_ends(self):
        web = ladder(2)
        self.assertEqual([word for word, _ in plain_clusters(web, (0, 1, 4, 5), (2, 2))], ["loud", "loud"])
        self.assertEqual(gone(web, (0, 1, 4, 5), ("turn", (2, 2))), ((0, 0), (1, 1), (6, 6), (7, 7)))


class TestHeirs(unittest.TestCase):
    def test_each_kind_of_deed(self):
        kinds = set()
        for web, painting, mating in all_samples():
            for deed in keeping_deeds(web, painting, mating):
                told = heirs(web, painting, deed)
                self.assertEqual(told, plain_heirs(web, painting, deed), (web, painting, deed))
                self.assertEqual(sorted(number for number, _ in told), list(range(len(told))))
                went = tuple(sorted(plain_gone(web, painting, deed).items()))
                self.assertEqual(gone(web, painting, deed), went)
                self.assertEqual(tuple(end for end, _ in went), plain_ends(web))
                self.assertEqual(sorted(to for _, to in went), list(plain_ends(web)))
                kinds.add((deed[0], any(end != to for end, to in went), any(end == to for end, to in went)))
        self.assertTrue({("turn", True, True), ("flip", True, True), ("flip", False, True)} <= kinds, kinds)
        self.assertNotIn(("bare", True, True), kinds)

    def test_of_a_ring_a_ring_of_a_tie_the_tie_of_its_ends(self):
        for web, painting, mating in all_samples():
            for deed in keeping_deeds(web, painting, mating):
                then = plain_lines(web, plain_behind(web, painting, deed))
                for (_, row), (number, ends) in zip(plain_lines(web, painting), heirs(web, painting, deed)):
                    heir = then[number][1]
                    self.assertEqual(is_tie(web, row), is_tie(web, heir))
                    self.assertEqual(sorted(ends), sorted((heir[0], heir[-1])) if is_tie(web, row) else [])

    def test_tracks_and_kinds(self):
        empty = changed = 0
        for web, painting, mating in all_samples():
            for deed in keeping_deeds(web, painting, mating)[1:]:
                then = plain_behind(web, painting, deed)
                lines = plain_lines(web, painting)
                for at, (number, ends) in enumerate(heirs(web, painting, deed)):
                    kind, row = lines[at]
                    heir = plain_lines(web, then)[number]
                    track = track_of(web, painting, mating, at)
                    self.assertEqual(track, track_of(web, then, mating, number))
                    if track:
                        self.assertEqual(heir[0], OTHER[kind] if deed[0] == "turn" else kind)
                    else:
                        self.assertEqual(heir[1], row)
                        self.assertEqual(ends, (row[0], row[-1]) if is_tie(web, row) else ())
                        empty += 1
                        changed += heir[0] != kind
        self.assertGreater(empty, 200)
        self.assertGreater(changed, 50)

    def test_done_twice_each_comes_to_itself(self):
        for web, painting, mating in all_samples():
            for deed in keeping_deeds(web, painting, mating):
                then = plain_behind(web, painting, deed)
                there, back = heirs(web, painting, deed), heirs(web, then, deed)
                self.assertEqual([back[number][0] for number, _ in there], list(range(len(there))))
                went = dict(gone(web, then, deed))
                self.assertTrue(all(went[to] == end for end, to in gone(web, painting, deed)))

    def test_a_still_painting(self):
        stills = 0
        for web, painting, mating in all_samples():
            if not is_still(web, painting, mating):
                continue
            stills += 1
            lines = plain_lines(web, painting)
            for at, (number, ends) in enumerate(heirs(web, painting, ("turn", mating))):
                kind, row = lines[at]
                if track_of(web, painting, mating, at) == ():
                    self.assertEqual(number, at)
                else:
                    self.assertEqual(lines[number][0], OTHER[kind])
                    self.assertEqual(track_of(web, painting, mating, number), track_of(web, painting, mating, at))
                    if ends:
                        self.assertEqual(ends, (over(web, mating, row[0]), over(web, mating, row[-1])))
        self.assertGreater(stills, 50)

    def test_all_deeds_of_small_webs(self):
        for web in (EMPTY, STAR, EIGHT, ladder(2)):
            for painting in plain_paintings(web):
                for mating in plain_matings(web):
                    for deed in keeping_deeds(web, painting, mating):
                        self.assertEqual(heirs(web, painting, deed), plain_heirs(web, painting, deed))


class TestRows(unittest.TestCase):
    """[2]: behind any row of deeds that keep, by whatever matings, taken back too."""

    def walk(self, web, painting, many, seed):
        """Each line's number and ends behind so many deeds of chance; the deeds; the last painting."""
        chance = Random(seed)
        deeds = []
        numbers = list(range(len(plain_lines(web, painting))))
        ends = {end: end for end in plain_ends(web)}
        for _ in range(many):
            deed = chance_keeping_deed(web, painting, chance)
            self.assertIs(keeps(web, painting, deed), True)
            painting, numbers, ends = self.step(web, painting, deed, numbers, ends)
            deeds.append(deed)
        return painting, numbers, ends, deeds

    def step(self, web, painting, deed, numbers, ends):
        rows = heirs(web, painting, deed)
        went = dict(gone(web, painting, deed))
        then = behind(web, painting, deed)
        return then, [rows[number][0] for number in numbers], {end: went[to] for end, to in ends.items()}

    def test_as_many_rings_and_ties_and_back_to_themselves(self):
        moved = 0
        for web, many in [(web, 6) for web in SMALL_WEBS + MIDDLE_WEBS] + [(web, 3) for web in BIG_WEBS[:5]]:
            for seed in range(3):
                first = chance_painting(web, seed)
                painting, numbers, ends, deeds = self.walk(web, first, many, seed)
                self.assertEqual(len(rings_of(web, painting)), len(rings_of(web, first)))
                self.assertEqual(len(ties_of(web, painting)), len(ties_of(web, first)))
                moved += any(end != to for end, to in ends.items()) and painting != first
                for (_, row), number in zip(plain_lines(web, first), numbers):
                    heir = plain_lines(web, painting)[number][1]
                    if is_tie(web, row):
                        self.assertEqual({ends[row[0]], ends[row[-1]]}, {heir[0], heir[-1]})
                for deed in deeds[::-1]:
                    painting, numbers, ends = self.step(web, painting, deed, numbers, ends)
                self.assertEqual(painting, first)
                self.assertEqual(numbers, list(range(len(numbers))))
                self.assertTrue(all(end == to for end, to in ends.items()))
        self.assertGreater(moved, 20)


class TestRefusals(unittest.TestCase):
    def test_loud_bears_the_first_loud_cluster_among_the_flips(self):
        met = set()
        for web, painting, mating in all_samples():
            loud = plain_loud(web, painting, mating)
            many = len(plain_clusters(web, painting, mating))
            for flips in [tuple(range(many)), loud, loud[1:], loud[-1:], tuple(range(many // 2, many))]:
                deed = ("flip", mating, flips)
                first = plain_first_loud(web, painting, deed)
                for asked in (heirs, gone):
                    if first is None:
                        asked(web, painting, deed)
                    else:
                        with self.assertRaises(Loud) as caught:
                            asked(web, painting, deed)
                        self.assertEqual(repr(caught.exception.cluster), repr(first))
                        met.add((first, flips[0] == first))
        self.assertTrue({(0, True), (1, True), (1, False)} <= met, met)

    def test_no_deeds(self):
        for asked in (heirs, gone):
            with self.assertRaises(NoWeb):
                asked(None, None, None)
            with self.assertRaises(NoPainting):
                asked(EIGHT, None, None)
            for thing in ANYTHING + [("bare", 0), ("turn", (0, 0)), ("flip", (0,), (1,)), ("flip", (1,), (0, 1))]:
                with self.assertRaises(NoDeeds):
                    asked(EIGHT, (0,), thing)

    def test_no_deed_goes_ahead_of_loud(self):
        web, painting, mating = ladder(2), (0, 1, 4, 5), (2, 2)
        with self.assertRaises(Loud):
            heirs(web, painting, ("flip", mating, (0, 1)))
        with self.assertRaises(NoDeeds):
            heirs(web, painting, ("flip", mating, (0, 1, 2)))
        with self.assertRaises(NoDeeds):
            gone(web, painting, ("flip", mating, [0]))

    def test_webs_of_no_posts_and_of_sixty(self):
        for deed in (("bare",), ("turn", ()), ("flip", (), ())):
            self.assertEqual(heirs(EMPTY, (), deed), ())
            self.assertEqual(gone(EMPTY, (), deed), ())
        for web in (LONG, ROUND, board(6, 10)):
            painting = chance_painting(web, 2)
            own = plain_own(web, painting)
            lines = plain_lines(web, painting)
            told = heirs(web, painting, ("turn", own))
            self.assertEqual([number for number, _ in told], list(range(len(lines))))
            self.assertEqual(len(plain_strands(web, own)), len(told))
            self.assertTrue(all(plain_track(web, painting, own, row) == () for _, row in lines))
        painting = plain_paintings(BOARD)[0]
        self.assertEqual(len(plain_lines(BOARD, painting)), len(heirs(BOARD, painting, ("bare",))))


if __name__ == "__main__":
    unittest.main()
