"""[13]: clusters with their words, chains."""

import unittest
from itertools import product

from support import (
    ANYTHING, BIG_WEBS, BOARD, EIGHT, EMPTY, FOUR_WAYS, LONG, LOOP_AND_ENDS, ROUND, SMALL_WEBS, STAR, board,
    is_strictly_rising, ladder, plain_corner_strands, plain_ends, plain_matings, plain_own, plain_paintings,
    plain_strands, random_mating, spoiled, whole_row,
)
from test_crossed import plain_crossed_corners
from test_ties import some_painting
from tiewheel.clusters.clusters import chain, cluster_at, clusters, shows_chain
from tiewheel.paintings.fronts import painting_at
from tiewheel.webs.errors import NoMating, NoNumber, NoPainting, NoWeb


def samples(webs, paintings=4, matings=9):
    for web in webs:
        for painting in plain_paintings(web)[:paintings]:
            rows = plain_matings(web)
            for mating in rows[::max(1, len(rows) // matings)]:
                yield web, painting, mating


def large_samples():
    for web in BIG_WEBS:
        for seed in range(3):
            yield web, some_painting(web), random_mating(seed, web)
    for web in (LONG, ROUND):
        painting = painting_at(web, 3 ** 30)
        own = plain_own(web, painting)
        yield web, painting, own
        yield web, painting, own[:30] + tuple((mating + 1) % 3 for mating in own[30:])


def plain_meets(web, painting, mating):
    """The strands of both corners of each post that isn't crossed."""
    own = plain_own(web, painting)
    return [plain_corner_strands(web, mating, post) for post in range(web[0]) if own[post] == mating[post]]


def plain_clusters(web, painting, mating):
    rows = plain_strands(web, mating)
    lots = {number: {number} for number in range(len(rows))}
    for one, other in plain_meets(web, painting, mating):
        both = lots[one] | lots[other]
        for number in both:
            lots[number] = both
    loud = []
    for row in rows:
        most = 1 if row[0] in plain_ends(web) else 2
        loud.append(len(plain_crossed_corners(web, painting, row)) > most)
    lots = sorted({tuple(sorted(lot)) for lot in lots.values()})
    return tuple(("loud" if any(loud[number] for number in lot) else "quiet", lot) for lot in lots)


def plain_shows_chain(web, painting, mating, one, other, thing):
    if not isinstance(thing, tuple) or len(thing) != 2 or not whole_row(thing[1]):
        return False
    word, numbers = thing
    many = len(plain_strands(web, mating))
    meets = plain_meets(web, painting, mating)
    if not all(0 <= number < many for number in numbers):
        return False
    if word == "chain":
        steps = list(zip(numbers, numbers[1:]))
        return (
            len(numbers) > 0 and numbers[0] == one and numbers[-1] == other
            and all(a != b and ([a, b] in meets or [b, a] in meets) for a, b in steps)
        )
    if word != "apart" or not is_strictly_rising(numbers) or one not in numbers or other in numbers:
        return False
    return all((a in numbers) == (b in numbers) for a, b in meets)


class TestClusters(unittest.TestCase):
    def test_by_hand(self):
        self.assertEqual(clusters(EMPTY, (), ()), ())
        self.assertEqual(clusters(EIGHT, (0,), (0,)), (("quiet", (0, 1)),))
        self.assertEqual(clusters(EIGHT, (0,), (1,)), (("quiet", (0,)),))
        self.assertEqual(clusters(STAR, (0, 1), (0,)), (("quiet", (0, 1)),))
        self.assertEqual(clusters(STAR, (0, 1), (2,)), (("quiet", (0,)), ("quiet", (1,))))
        web = ladder(2)
        self.assertEqual(clusters(web, (0, 1, 4, 5), (2, 2)), (("loud", (0,)), ("loud", (1,))))
        self.assertEqual(clusters(web, (0, 1, 4, 5), (2, 0)), (("loud", (0, 1)),))
        self.assertEqual(clusters(web, (0, 1, 4, 5), (0, 0)), (("quiet", (0, 1, 2)),))

    def test_words_and_order(self):
        met = set()
        for web, painting, mating in list(samples(SMALL_WEBS)) + list(large_samples()):
            expected = plain_clusters(web, painting, mating)
            self.assertEqual(clusters(web, painting, mating), expected)
            met.update((word, len(lot) > 1) for word, lot in expected)
            for at, (_, lot) in enumerate(expected):
                for number in lot[:3]:
                    self.assertEqual(cluster_at(web, painting, mating, number), at)
        self.assertEqual(len(met), 4)

    def test_by_its_own_mating_all_is_quiet(self):
        for web, painting, _ in list(samples(SMALL_WEBS)) + list(large_samples()):
            told = clusters(web, painting, plain_own(web, painting))
            self.assertTrue(all(word == "quiet" for word, _ in told))

    def test_one_loud_strand_makes_its_cluster_loud(self):
        # The first border has two crossed corners of the first post; the other one has none.
        self.assertEqual(plain_strands(ladder(2), (2, 0)), ((0, 2, 4, 5, 3, 1), (6, 7)))
        self.assertEqual(clusters(ladder(2), (0, 1, 4, 5), (2, 0)), (("loud", (0, 1)),))
        for web, painting, mating in samples(SMALL_WEBS + [board(2, 3)]):
            for word, lot in clusters(web, painting, mating):
                rows = [plain_strands(web, mating)[number] for number in lot]
                crossings = [
                    len(plain_crossed_corners(web, painting, row)) > (1 if row[0] in plain_ends(web) else 2)
                    for row in rows
                ]
                self.assertEqual(word, "loud" if any(crossings) else "quiet")


class TestChains(unittest.TestCase):
    def test_by_hand(self):
        self.assertEqual(chain(EIGHT, (0,), (0,), 0, 1), ("chain", (0, 1)))
        self.assertEqual(chain(EIGHT, (0,), (0,), 1, 0), ("chain", (1, 0)))
        self.assertIs(shows_chain(EIGHT, (0,), (0,), 0, 1, ("chain", (0, 1, 0, 1))), True)
        self.assertIs(shows_chain(EIGHT, (0,), (0,), 0, 1, ("chain", (1, 0))), False)
        self.assertIs(shows_chain(EIGHT, (0,), (0,), 0, 1, ("chain", (0, 0, 1))), False)
        self.assertIs(shows_chain(EIGHT, (0,), (0,), 0, 1, ("apart", (0,))), False)
        self.assertEqual(chain(STAR, (0, 1), (2,), 0, 1), ("apart", (0,)))
        self.assertEqual(chain(STAR, (0, 1), (2,), 1, 0), ("apart", (1,)))
        self.assertIs(shows_chain(STAR, (0, 1), (2,), 0, 1, ("apart", (0,))), True)
        self.assertIs(shows_chain(STAR, (0, 1), (2,), 0, 1, ("apart", (1,))), False)
        self.assertIs(shows_chain(STAR, (0, 1), (2,), 0, 1, ("apart", (0, 1))), False)
        self.assertIs(shows_chain(STAR, (0, 1), (2,), 0, 1, ("apart", ())), False)
        self.assertIs(shows_chain(STAR, (0, 1), (2,), 0, 1, ("chain", (0, 1))), False)

    def test_of_one_strand_twice(self):
        for web, painting, mating in samples(SMALL_WEBS[:12]):
            meets = plain_meets(web, painting, mating)
            for number in range(len(plain_strands(web, mating))):
                told = chain(web, painting, mating, number, number)
                self.assertEqual(told[0], "chain")
                self.assertIs(shows_chain(web, painting, mating, number, number, told), True)
                self.assertIs(shows_chain(web, painting, mating, number, number, ("chain", (number,))), True)
                self.assertIs(shows_chain(web, painting, mating, number, number, ("chain", (number,) * 2)), False)
                self.assertIs(shows_chain(web, painting, mating, number, number, ("chain", ())), False)
                self.assertIs(shows_chain(web, painting, mating, number, number, ("apart", (number,))), False)
                for one, other in meets:
                    if number == one != other:
                        back = ("chain", (one, other, one))
                        self.assertIs(shows_chain(web, painting, mating, one, one, back), True)

    def test_just_one_can_be(self):
        words = set()
        for web, painting, mating in samples(SMALL_WEBS):
            many = len(plain_strands(web, mating))
            lots = [set(lot) for _, lot in plain_clusters(web, painting, mating)]
            for one, other in list(product(range(many), repeat=2))[:40]:
                told = chain(web, painting, mating, one, other)
                words.add(told[0])
                self.assertEqual(told[0], "chain" if any({one, other} <= lot for lot in lots) else "apart")
                self.assertTrue(plain_shows_chain(web, painting, mating, one, other, told))
                self.assertIs(shows_chain(web, painting, mating, one, other, told), True)
        self.assertEqual(words, {"chain", "apart"})

    def test_all_short_papers(self):
        for web, painting, mating in samples(SMALL_WEBS[:12], 2, 6):
            many = min(4, len(plain_strands(web, mating)))
            rows = [row for long in range(4) for row in product(range(many), repeat=long)]
            for one, other in [pair for pair in ((0, 0), (0, 1), (1, 0), (2, 1)) if max(pair) < many]:
                for thing in [(word, row) for word in ("chain", "apart") for row in rows]:
                    expected = plain_shows_chain(web, painting, mating, one, other, thing)
                    self.assertIs(shows_chain(web, painting, mating, one, other, thing), expected, thing)

    def test_apart_of_several_clusters(self):
        seen = 0
        for web, painting, mating in samples(SMALL_WEBS, 3, 9):
            lots = [lot for _, lot in plain_clusters(web, painting, mating)]
            if len(lots) < 3:
                continue
            seen += 1
            both = tuple(sorted(lots[0] + lots[2]))
            one, other = lots[0][0], lots[1][0]
            self.assertIs(shows_chain(web, painting, mating, one, other, ("apart", both)), True)
            self.assertIs(shows_chain(web, painting, mating, one, other, ("apart", both[::-1])), False)
            self.assertIs(shows_chain(web, painting, mating, one, other, ("apart", both + (both[-1],))), False)
            every = tuple(sorted(both + lots[1]))
            self.assertIs(shows_chain(web, painting, mating, one, other, ("apart", every)), False)
        self.assertGreater(seen, 5)

    def test_what_is_much_like_a_paper_and_anything(self):
        for web, painting, mating in samples([EIGHT, STAR, LOOP_AND_ENDS, FOUR_WAYS, BOARD, ladder(2)], 2, 5):
            many = len(plain_strands(web, mating))
            for one, other in list(product(range(many), repeat=2))[:6]:
                told = chain(web, painting, mating, one, other)
                for thing in ANYTHING + spoiled(told):
                    expected = plain_shows_chain(web, painting, mating, one, other, thing)
                    self.assertIs(shows_chain(web, painting, mating, one, other, thing), expected, thing)

    def test_sixty_posts(self):
        for web, painting, mating in large_samples():
            many = len(plain_strands(web, mating))
            lots = [set(lot) for _, lot in plain_clusters(web, painting, mating)]
            for one in (0, many // 2, many - 1):
                for other in (0, many // 3, many - 1):
                    told = chain(web, painting, mating, one, other)
                    self.assertEqual(told[0], "chain" if any({one, other} <= lot for lot in lots) else "apart")
                    self.assertIs(shows_chain(web, painting, mating, one, other, told), True)
                    for thing in ((told[0], told[1] * 2), (told[0], told[1][:-1]), ("chain", (one, other))):
                        expected = plain_shows_chain(web, painting, mating, one, other, thing)
                        self.assertIs(shows_chain(web, painting, mating, one, other, thing), expected, thing)


class TestRefusals(unittest.TestCase):
    def test_no_strands_number_the_one_ahead_of_the_other(self):
        for wrong in (-1, 2, True, None, "0", [0], (), 10 ** 39):
            for asked, more in ((chain, ()), (shows_chain, (None,))):
                for one, other in ((wrong, 0), (wrong, 10 ** 38), (0, wrong)):
                    with self.assertRaises(NoNumber) as caught:
                        asked(EIGHT, (0,), (0,), one, other, *more)
                    self.assertIs(caught.exception.number, wrong)
            with self.assertRaises(NoNumber) as caught:
                cluster_at(EIGHT, (0,), (0,), wrong)
            self.assertIs(caught.exception.number, wrong)
        with self.assertRaises(NoNumber):
            chain(EMPTY, (), (), 0, 0)

    def test_order(self):
        asked = ((clusters, ()), (cluster_at, (None,)), (chain, (None, None)), (shows_chain, (None, None, None)))
        for ask, more in asked:
            with self.assertRaises(NoWeb):
                ask(None, None, None, *more)
            with self.assertRaises(NoPainting):
                ask(EIGHT, None, None, *more)
            with self.assertRaises(NoMating):
                ask(EIGHT, (0,), None, *more)


if __name__ == "__main__":
    unittest.main()
