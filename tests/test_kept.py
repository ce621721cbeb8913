"""[18]: whether another painting keeps the lines of a first one."""

import unittest

from plain_deeds import (
    OTHER, chance_painting, is_tie, keeping_deeds, large_samples, middle_samples, plain_behind, plain_clusters,
    plain_crossed, plain_first_loud, plain_flipped, plain_heirs, plain_lines, plain_loud, plain_track, plain_walked,
    small_samples,
)
from support import (
    ANYTHING, BOARD, EIGHT, EMPTY, FOUR_WAYS, LONG, LOOP_AND_ENDS, ROUND, SMALL_WEBS, STAR, alike, ladder, necklace,
    plain_matings, plain_own, plain_paintings, spoiled,
)
from tiewheel.heirs.kept import kept, shows_kept
from tiewheel.webs.errors import NoMating, NoPainting, NoWeb


def plain_kept(web, painting, other, mating, exchanged):
    unlike = set(plain_crossed(web, painting, mating)) ^ set(plain_crossed(web, other, mating))
    if unlike:
        return ("post", min(unlike))
    then = plain_lines(web, other)
    rows = []
    for at, (kind, row) in enumerate(plain_lines(web, painting)):
        track = plain_track(web, painting, mating, row)
        if track:
            wanted = OTHER[kind] if exchanged else kind
            heirs = [line for line in then if line[0] == wanted and plain_track(web, other, mating, line[1]) == track]
        else:
            heirs = [line for line in then if line[1] == row]
        heirs = [line for line in heirs if is_tie(web, line[1]) == is_tie(web, row)]
        if not heirs:
            return ("line", at)
        ends = ()
        if is_tie(web, row):
            heir = heirs[0][1]
            ends = (heir[0], heir[-1])
            if track and plain_walked(web, painting, mating, row) != plain_walked(web, other, mating, heir):
                ends = ends[::-1]
        rows.append((then.index(heirs[0]), ends))
    return ("kept", tuple(rows))


def all_samples():
    return list(small_samples(2, 4)) + list(middle_samples(2)) + list(large_samples())


class TestKept(unittest.TestCase):
    def test_by_hand(self):
        for exchanged in (True, False):
            self.assertEqual(kept(EMPTY, (), (), (), exchanged=exchanged), ("kept", ()))
            self.assertEqual(kept(STAR, (0, 1), (0, 2), (0,), exchanged=exchanged), ("post", 0))
        self.assertEqual(kept(STAR, (0, 1), (1, 2), (2,)), ("kept", ((0, (0, 3)), (1, (2, 1)))))
        self.assertEqual(kept(STAR, (0, 1), (0, 1), (2,)), ("kept", ((0, (2, 3)), (1, (0, 1)))))
        self.assertEqual(kept(STAR, (0, 1), (0, 1), (2,), exchanged=True), ("kept", ((1, (0, 1)), (0, (2, 3)))))
        self.assertEqual(kept(STAR, (0, 1), (2, 3), (0,)), ("kept", ((1, (2, 3)), (0, (0, 1)))))
        self.assertEqual(kept(STAR, (0, 1), (2, 3), (0,), exchanged=True), ("kept", ((1, (2, 3)), (0, (0, 1)))))

    def test_the_painting_itself(self):
        for web, painting, mating in all_samples():
            rows = tuple((at, (row[0], row[-1]) if is_tie(web, row) else ())
                         for at, (_, row) in enumerate(plain_lines(web, painting)))
            self.assertEqual(kept(web, painting, painting, mating), ("kept", rows))
            self.assertEqual(kept(web, painting, painting, mating, exchanged=False), ("kept", rows))
            self.assertIs(shows_kept(web, painting, painting, mating, ("kept", rows)), True)

    def test_behind_deeds_that_keep_it_tells_the_heirs(self):
        for web, painting, mating in all_samples():
            for deed in keeping_deeds(web, painting, mating):
                then = plain_behind(web, painting, deed)
                told = ("kept", plain_heirs(web, painting, deed))
                exchanged = deed[0] != "flip"
                self.assertEqual(kept(web, painting, then, mating, exchanged=exchanged), told, (web, painting, deed))
                self.assertIs(shows_kept(web, painting, then, mating, told, exchanged=exchanged), True)
                if deed[0] == "bare":
                    own = plain_own(web, painting)
                    self.assertEqual(kept(web, painting, then, own, exchanged=True), told)

    def test_behind_flips_of_loud_clusters_either_may_be(self):
        words = set()
        furthest = 0
        for web, painting, mating in all_samples():
            many = len(plain_clusters(web, painting, mating))
            for flips in [plain_loud(web, painting, mating)] + [(at,) for at in range(min(many, 4))]:
                if plain_first_loud(web, painting, ("flip", mating, flips)) is not None:
                    then = plain_flipped(web, painting, mating, flips)
                    for exchanged in (True, False):
                        told = kept(web, painting, then, mating, exchanged=exchanged)
                        self.assertEqual(told, plain_kept(web, painting, then, mating, exchanged))
                        self.assertIs(shows_kept(web, painting, then, mating, told, exchanged=exchanged), True)
                        words.add((told[0], exchanged))
                        furthest = max(furthest, told[1] if told[0] == "line" else 0)
        self.assertTrue({("kept", True), ("line", False), ("line", True)} <= words, words)
        self.assertGreater(furthest, 1)

    def test_between_any_two_paintings(self):
        words = set()
        pairs = []
        for web in [web for web in SMALL_WEBS if web[0] <= 3]:
            rows = plain_paintings(web)
            pairs += [(web, rows[at], other) for at in (0, len(rows) // 2) for other in rows[::max(1, len(rows) // 12)]]
        for web, painting, other in pairs:
            for mating in plain_matings(web)[::2]:
                for exchanged in (True, False):
                    told = kept(web, painting, other, mating, exchanged=exchanged)
                    expected = plain_kept(web, painting, other, mating, exchanged)
                    self.assertTrue(alike(told, expected), (web, painting, other, mating, exchanged))
                    words.add(told if told[0] == "post" else told[0])
        self.assertEqual(words, {"kept", "line", ("post", 0), ("post", 1), ("post", 2)})

    def test_the_least_post_crossed_in_just_one(self):
        web = board_of_stars = (3, tuple((hand,) for hand in range(12)))
        painting = (0, 1, 4, 5, 8, 9)
        self.assertEqual(kept(web, painting, (0, 1, 4, 6, 8, 10), (0, 0, 0)), ("post", 1))
        self.assertEqual(kept(web, painting, (0, 1, 4, 5, 8, 10), (0, 0, 0)), ("post", 2))
        self.assertEqual(kept(web, painting, (0, 2, 4, 5, 8, 10), (0, 0, 0)), ("post", 0))
        self.assertEqual(kept(board_of_stars, painting, (0, 2, 4, 5, 8, 9), (1, 0, 0))[0], "kept")

    def test_a_ring_and_a_tie_with_one_track_are_no_heirs_of_one_another(self):
        # Of the first painting the one way is a ring through the crossed post, of the other it is a tie.
        web = LOOP_AND_ENDS
        self.assertEqual(plain_lines(web, (0,)), (("bare", (1, 3)), ("painted", (0, 2))))
        for mating in ((0,), (1,)):
            tracks = {plain_track(web, (0,), mating, row) for _, row in plain_lines(web, (0,))}
            self.assertEqual(len(tracks), 1)
            self.assertNotEqual(tracks, {()})
            # The bare tie has the painted ring's track, yet neither is the other's heir.
            self.assertEqual(kept(web, (0,), (0,), mating, exchanged=True), ("line", 0))
            self.assertEqual(kept(web, (0,), (1, 2), mating), ("line", 0))
            self.assertEqual(kept(web, (0,), (1, 2), mating, exchanged=True)[0], "kept")
            self.assertEqual(kept(web, (0,), (0,), mating)[0], "kept")

    def test_sixty_posts(self):
        for web in (LONG, ROUND):
            painting, other = chance_painting(web, 1), chance_painting(web, 2)
            for mating in (plain_own(web, painting), (0,) * 60, (2,) * 60):
                for exchanged in (True, False):
                    told = kept(web, painting, other, mating, exchanged=exchanged)
                    self.assertEqual(told, plain_kept(web, painting, other, mating, exchanged))


class TestShowsKept(unittest.TestCase):
    def test_right_and_wrong_rows(self):
        for web, painting, mating in list(small_samples(1, 3)) + list(middle_samples(1))[:6]:
            for deed in keeping_deeds(web, painting, mating)[:4]:
                then = plain_behind(web, painting, deed)
                for exchanged in (True, False):
                    told = plain_kept(web, painting, then, mating, exchanged)
                    self.assertIs(shows_kept(web, painting, then, mating, told, exchanged=exchanged), True)
                    for thing in spoiled(told):
                        expected = alike(thing, told)
                        shown = shows_kept(web, painting, then, mating, thing, exchanged=exchanged)
                        self.assertIs(shown, expected, thing)

    def test_anything(self):
        for web, other in ((EIGHT, (1,)), (STAR, (0, 2)), (LOOP_AND_ENDS, (1, 2)), (FOUR_WAYS, (0, 1)), (EMPTY, ())):
            painting = plain_paintings(web)[0]
            for mating in plain_matings(web):
                told = plain_kept(web, painting, other, mating, False)
                things = ANYTHING + [("kept", ()), ("post", 0), ("post", False), ("line", 0), ("line", False), ("post", True)]
                things += [("line", 1), ("line", True), ("kept", None), ("kept", []), ["post", 0], ("post",), told + (0,)]
                for thing in things:
                    self.assertIs(shows_kept(web, painting, other, mating, thing), alike(thing, told), thing)

    def test_truths_are_no_numbers(self):
        # Heirs 0 and 1 of the two lines; a truth in their places shows nothing.
        for told in (("kept", ((1, ()), (0, ()))),):
            self.assertIs(shows_kept(EIGHT, (0,), (1,), (0,), told), True)
        for thing in (("kept", ((True, ()), (False, ()))), ("kept", ((1, ()), (False, ()))), ("kept", ((1, ()), [0, ()]))):
            self.assertIs(shows_kept(EIGHT, (0,), (1,), (0,), thing), False)
        self.assertIs(shows_kept(STAR, (0, 1), (0, 2), (0,), ("post", 0)), True)
        self.assertIs(shows_kept(STAR, (0, 1), (0, 2), (0,), ("post", False)), False)


class TestRefusals(unittest.TestCase):
    def test_order(self):
        for ask, more in ((kept, ()), (shows_kept, (None,))):
            with self.assertRaises(NoWeb):
                ask(None, None, None, None, *more)
            with self.assertRaises(NoPainting):
                ask(EIGHT, None, (0,), (0,), *more)
            with self.assertRaises(NoPainting):
                ask(EIGHT, (0,), None, None, *more)
            with self.assertRaises(NoMating):
                ask(EIGHT, (0,), (1,), None, *more)

    def test_anything_as_other(self):
        for thing in ANYTHING + spoiled((0, 1)):
            if not any(alike(thing, row) for row in plain_paintings(STAR)):
                for ask, more in ((kept, ()), (shows_kept, (("kept", ()),))):
                    with self.assertRaises(NoPainting):
                        ask(STAR, (0, 1), thing, (0,), *more)

    def test_kinds_are_told_by_name_alone(self):
        with self.assertRaises(TypeError):
            kept(EIGHT, (0,), (1,), (0,), True)
        with self.assertRaises(TypeError):
            shows_kept(EIGHT, (0,), (1,), (0,), ("kept", ()), True)

    def test_more_webs(self):
        for web in (BOARD, ladder(3), necklace(3)):
            for painting in plain_paintings(web)[::9]:
                for other in plain_paintings(web)[::7]:
                    for mating in plain_matings(web)[::11]:
                        for exchanged in (True, False):
                            told = plain_kept(web, painting, other, mating, exchanged)
                            self.assertEqual(kept(web, painting, other, mating, exchanged=exchanged), told)


if __name__ == "__main__":
    unittest.main()
