"""[25]: means, steps, kin."""

import unittest
from itertools import combinations

from plain_deeds import (
    MIDDLE_WEBS, chance_painting, large_samples, middle_samples, near_own, plain_behind, plain_clusters, small_samples,
)
from plain_products import plain_are_means, plain_kin, plain_kin_number, plain_steps
from support import (
    ANYTHING, BOARD, EIGHT, EMPTY, LONG, LOOP_AND_ENDS, ROUND, SMALL_WEBS, STAR, alike, board, plain_matings, plain_own,
    plain_paintings, random_mating, spoiled,
)
from tiewheel.heirs.deeds import behind, keeps
from tiewheel.led.steps import MOST_KIN, MOST_MEANS, kin_of, steps_of
from tiewheel.webs.errors import NoMating, NoNumber, NoPainting, NoWeb, TooWide


def samples():
    for web, painting, mating in list(small_samples(2, 3)) + list(middle_samples(1)) + list(large_samples()):
        rows = {mating, random_mating(11, web), near_own(web, painting, 5), plain_own(web, painting)}
        yield web, (mating,), painting
        yield web, tuple(sorted(rows)), painting
        yield web, tuple(sorted(rows)[:2]), painting


class TestSteps(unittest.TestCase):
    def test_by_hand(self):
        self.assertEqual((repr(MOST_MEANS), repr(MOST_KIN)), ("4", "60"))
        self.assertEqual(steps_of(EMPTY, ((),), ()), (("turn", ()),))
        self.assertEqual(steps_of(STAR, ((2,),), (0, 1)), (("flip", (2,), (0,)), ("flip", (2,), (1,)), ("turn", (2,))))
        self.assertEqual(steps_of(STAR, ((0,), (2,)), (0, 1)), (
            ("flip", (0,), (0,)), ("flip", (2,), (0,)), ("flip", (2,), (1,)), ("turn", (0,)), ("turn", (2,)),
        ))
        self.assertEqual(steps_of(STAR, ((0,), (2,)), (0, 1), flips=False), (("turn", (0,)), ("turn", (2,))))

    def test_rising_with_and_without_flips(self):
        for web, means, painting in samples():
            told = steps_of(web, means, painting)
            self.assertEqual(told, plain_steps(web, means, painting, True))
            self.assertEqual(told, tuple(sorted(told)))
            self.assertEqual(steps_of(web, means, painting, flips=True), told)
            turns = steps_of(web, means, painting, flips=False)
            self.assertEqual(turns, tuple(("turn", mating) for mating in means))

    def test_all_keep_lines_and_each_is_undone_by_itself(self):
        for web, means, painting in list(samples())[::3]:
            for deed in steps_of(web, means, painting)[:12] + steps_of(web, means, painting)[-3:]:
                self.assertIs(keeps(web, painting, deed), True)
                then = behind(web, painting, deed)
                self.assertIn(deed, steps_of(web, means, then))
                self.assertEqual(behind(web, then, deed), painting)


class TestKin(unittest.TestCase):
    def test_by_hand(self):
        self.assertEqual(kin_of(EMPTY, ((),), ()), ((),))
        self.assertEqual(kin_of(STAR, ((2,),), (0, 1)), ((0, 1), (0, 3), (1, 2), (2, 3)))
        self.assertEqual(kin_of(STAR, ((2,),), (0, 1), flips=False), ((0, 1),))
        self.assertEqual(kin_of(STAR, ((0,), (2,)), (0, 1)), tuple(combinations(range(4), 2)))
        self.assertEqual(kin_of(STAR, ((0,), (2,)), (0, 1), flips=False), ((0, 1),))
        self.assertEqual(kin_of(EIGHT, ((0,), (1,), (2,)), (0,)), ((0,), (1,)))

    def test_against_a_plain_walk(self):
        sizes = set()
        for web, means, painting in list(samples()):
            for flips in (True, False):
                wanted = plain_kin(web, means, painting, flips, 60)
                if len(wanted) <= 60:
                    self.assertEqual(kin_of(web, means, painting, flips=flips), wanted)
                    self.assertEqual(kin_of(web, means, painting, flips=flips, most=len(wanted)), wanted)
                    sizes.add(len(wanted))
                else:
                    with self.assertRaises(TooWide) as caught:
                        kin_of(web, means, painting, flips=flips)
                    self.assertEqual(repr(caught.exception.most), "60")
        self.assertTrue({1, 2, 4} <= sizes and max(sizes) > 15, sizes)

    def test_of_more_than_most(self):
        for web, means, painting in list(samples())[::2]:
            wanted = plain_kin(web, means, painting, True, 30)
            for most in (1, 2, 3, len(wanted) - 1, len(wanted), 30):
                if not 1 <= most <= 30:
                    continue
                if len(wanted) > most:
                    with self.assertRaises(TooWide) as caught:
                        kin_of(web, means, painting, most=most)
                    self.assertEqual(repr(caught.exception.most), repr(most))
                else:
                    self.assertEqual(kin_of(web, means, painting, most=most), wanted)

    def test_by_one_mating_as_many_as_clusters_tell(self):
        met = set()
        for web, painting, mating in list(small_samples(3, 5)) + list(middle_samples(3)) + list(large_samples()):
            many = plain_kin_number(web, painting, mating)
            loud = "loud" in [word for word, _ in plain_clusters(web, painting, mating)]
            if many <= 128:
                self.assertEqual(len(kin_of(web, (mating,), painting, most=400)), many)
                met.add((many, loud))
            else:
                with self.assertRaises(TooWide):
                    kin_of(web, (mating,), painting, most=128)
            self.assertEqual(len(kin_of(web, (mating,), painting, flips=False)), 2 if loud else 1)
        self.assertTrue({(1, False), (2, True), (2, False), (4, True), (4, False), (8, True)} <= met, met)

    def test_kin_are_kin_of_one_another(self):
        for web in [BOARD, board(2, 3)] + MIDDLE_WEBS[3:8]:
            painting = chance_painting(web, 3)
            means = tuple(sorted({plain_own(web, painting), near_own(web, painting, 8)}))
            wanted = plain_kin(web, means, painting, False, 100)
            if len(wanted) <= 100:
                for other in wanted[:5]:
                    self.assertEqual(kin_of(web, means, other, flips=False, most=100), wanted)

    def test_the_whole_of_a_board(self):
        for means in combinations([(0, 0, 0, 0), (0, 1, 1, 0), (1, 1, 1, 1), (2, 2, 2, 2)], 2):
            wanted = plain_kin(BOARD, means, plain_paintings(BOARD)[0], True)
            self.assertEqual(kin_of(BOARD, means, plain_paintings(BOARD)[0], most=400), wanted)
            self.assertTrue(all(plain_behind(BOARD, row, ("turn", means[0])) in wanted for row in wanted))


class TestRefusals(unittest.TestCase):
    def test_no_means(self):
        rows = plain_matings(BOARD)
        wrong = [(), rows[0], [rows[0]], tuple(rows[:5]), (rows[1], rows[0]), (rows[0], rows[0]), None, 0, "0", {}, True,
                 (rows[0], None), ((0, 0, 0),), ((0, 0, 0, 3),), ((0, 0, 0, True),), (list(rows[0]),), (rows[2], rows[1], rows[3]),
                 (rows[0], rows[1], rows[1]), ((0, 0, 0, -1),), ((0, 0, 0, 10 ** 39),), (rows[0], ()), ((), rows[0])]
        painting = plain_paintings(BOARD)[0]
        for thing in wrong + ANYTHING:
            self.assertFalse(plain_are_means(BOARD, thing), thing)
            for ask in (steps_of, kin_of):
                with self.assertRaises(NoMating, msg=str(thing)):
                    ask(BOARD, thing, painting)
        for many in (1, 2, 3, 4):
            self.assertEqual(len(steps_of(BOARD, tuple(rows[:many]), painting, flips=False)), many)
        for thing in spoiled(((0,), (2,))):
            if not plain_are_means(EIGHT, thing):
                with self.assertRaises(NoMating, msg=str(thing)):
                    kin_of(EIGHT, thing, (0,))

    def test_no_number_of_most(self):
        for most in (0, -1, 401, 1000, True, False, None, "60", (60,), [60], {}, 10 ** 39, -10 ** 39):
            with self.assertRaises(NoNumber, msg=str(most)) as caught:
                kin_of(EIGHT, ((0,),), (0,), most=most)
            self.assertIs(caught.exception.number, most)
        for most in (2, 60, 399, 400):
            self.assertEqual(kin_of(EIGHT, ((0,),), (0,), most=most), ((0,), (1,)))
        with self.assertRaises(TooWide) as caught:
            kin_of(EIGHT, ((0,),), (0,), most=1)
        self.assertEqual(repr(caught.exception.most), "1")

    def test_order(self):
        for ask in (steps_of, kin_of):
            with self.assertRaises(NoWeb):
                ask(None, None, None)
            with self.assertRaises(NoMating):
                ask(EIGHT, None, None)
            with self.assertRaises(NoPainting):
                ask(EIGHT, ((0,),), None)
        with self.assertRaises(NoWeb):
            kin_of(None, None, None, most=0)
        with self.assertRaises(NoMating):
            kin_of(EIGHT, None, None, most=0)
        with self.assertRaises(NoPainting):
            kin_of(EIGHT, ((0,),), None, most=0)
        with self.assertRaises(NoNumber):
            kin_of(EIGHT, ((0,),), (0,), most=0)
        for thing in ANYTHING + spoiled((0,)):
            if not any(alike(thing, row) for row in plain_paintings(EIGHT)):
                for ask in (steps_of, kin_of):
                    with self.assertRaises(NoPainting):
                        ask(EIGHT, ((0,),), thing)

    def test_sixty_posts(self):
        for web in (LONG, ROUND):
            painting = chance_painting(web, 1)
            own = plain_own(web, painting)
            shifted = tuple((at + 1) % 3 for at in own)
            means = tuple(sorted((own, shifted, random_mating(3, web), (2,) * 60)))
            wanted = plain_kin(web, means, painting, False, 60)
            if len(wanted) <= 60:
                self.assertEqual(kin_of(web, means, painting, flips=False), wanted)
            else:
                with self.assertRaises(TooWide):
                    kin_of(web, means, painting, flips=False)
        self.assertEqual(len(SMALL_WEBS[1][1]), 4)
        self.assertEqual(kin_of(LOOP_AND_ENDS, ((1,),), (0,)), plain_kin(LOOP_AND_ENDS, ((1,),), (0,), True))


if __name__ == "__main__":
    unittest.main()
