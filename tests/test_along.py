"""[27]: rows of deeds, heirs and ends along them."""

import unittest
from random import Random

from plain_deeds import (
    MIDDLE_WEBS, chance_keeping_deed, chance_painting, is_tie, large_samples, near_own, plain_behind, plain_clusters,
    plain_lines, plain_loud, small_samples,
)
from plain_led import plain_along, plain_are_deeds, plain_bar_along, plain_heirs_along, plain_met
from plain_products import plain_steps
from support import ANYTHING, BOARD, EIGHT, EMPTY, LONG, ROUND, SMALL_WEBS, STAR, alike, plain_ends, plain_own, spoiled
from tiewheel.heirs.heirs import gone, heirs
from tiewheel.led.along import MOST_ROW, all_keep, are_deeds, done, gone_along, heirs_along
from tiewheel.webs.errors import Loud, NoDeeds, NoPainting, NoWeb


def keeping_row(web, painting, chance, many):
    deeds, here = [], painting
    for _ in range(many):
        deed = chance_keeping_deed(web, here, chance)
        deeds.append(deed)
        here = plain_behind(web, here, deed)
    return tuple(deeds)


def any_row(web, painting, chance, many):
    """Deeds of what they meet, flips of loud clusters among them."""
    deeds, here = [], painting
    for _ in range(many):
        # Most posts crossed, so that there are loud clusters to flip.
        mating = tuple((at + chance.choice((0, 1, 1, 2, 2))) % 3 for at in plain_own(web, here))
        lots = plain_clusters(web, here, mating)
        flips = tuple(at for at in range(len(lots)) if chance.random() < 0.4)
        deeds.append(chance.choice([("flip", mating, flips), ("turn", mating), ("bare",)]))
        here = plain_behind(web, here, deeds[-1])
    return tuple(deeds)


def samples():
    chance = Random(6)
    for web in SMALL_WEBS + MIDDLE_WEBS[:8] + [LONG, ROUND]:
        for seed in range(4 if web[0] < 20 else 1):
            painting = chance_painting(web, seed)
            yield web, painting, keeping_row(web, painting, chance, chance.randint(0, 5))
            yield web, painting, any_row(web, painting, chance, chance.randint(1, 4))


class TestRows(unittest.TestCase):
    def test_by_hand(self):
        self.assertEqual(repr(MOST_ROW), "60")
        row = (("flip", (2,), (0,)), ("bare",), ("turn", (0,)))
        self.assertIs(are_deeds(STAR, (0, 1), row), True)
        self.assertEqual(done(STAR, (0, 1), row), plain_met(STAR, (0, 1), row)[-1])
        self.assertEqual(done(STAR, (0, 1), ()), (0, 1))
        self.assertEqual(heirs_along(STAR, (0, 1), ()), ((0, (2, 3)), (1, (0, 1))))
        self.assertEqual(gone_along(STAR, (0, 1), ()), ((0, 0), (1, 1), (2, 2), (3, 3)))
        self.assertEqual(heirs_along(EIGHT, (0,), (("bare",),)), ((1, ()), (0, ())))
        self.assertEqual(heirs_along(EMPTY, (), (("bare",), ("turn", ()), ("flip", (), ()))), ())
        self.assertEqual(gone_along(EMPTY, (), (("bare",),)), ())

    def test_against_deeds_one_behind_another(self):
        barred = kept = 0
        for web, painting, row in samples():
            self.assertIs(are_deeds(web, painting, row), True)
            self.assertEqual(done(web, painting, row), plain_met(web, painting, row)[-1])
            bar = plain_bar_along(web, painting, row)
            self.assertIs(all_keep(web, painting, row), bar is None)
            if bar is None:
                self.assertEqual(heirs_along(web, painting, row), plain_heirs_along(web, painting, row))
                went = plain_along(web, painting, row)[1]
                self.assertEqual(gone_along(web, painting, row), tuple((end, went[end]) for end in plain_ends(web)))
                kept += 1
            else:
                for ask in (heirs_along, gone_along):
                    with self.assertRaises(Loud) as caught:
                        ask(web, painting, row)
                    self.assertEqual(repr(caught.exception.cluster), repr(bar))
                barred += 1
        self.assertGreater(min(barred, kept), 30)

    def test_of_one_deed_as_heirs_and_gone(self):
        chance = Random(9)
        for web, painting, _ in list(small_samples(2, 2)) + list(large_samples())[::4]:
            deed = chance_keeping_deed(web, painting, chance)
            self.assertEqual(heirs_along(web, painting, (deed,)), heirs(web, painting, deed))
            self.assertEqual(gone_along(web, painting, (deed,)), gone(web, painting, deed))

    def test_two_rows_put_together(self):
        chance = Random(10)
        for web in SMALL_WEBS[1:] + MIDDLE_WEBS[:5]:
            painting = chance_painting(web, 3)
            one = keeping_row(web, painting, chance, 3)
            then = done(web, painting, one)
            other = keeping_row(web, then, chance, 3)
            rows, more = heirs_along(web, painting, one), heirs_along(web, then, other)
            went = dict(gone_along(web, then, other))
            wanted = tuple((more[number][0], tuple(went[end] for end in ends)) for number, ends in rows)
            self.assertEqual(heirs_along(web, painting, one + other), wanted)

    def test_steps_turned_about_lead_each_line_and_end_to_itself(self):
        chance = Random(11)
        moved = 0
        for web in SMALL_WEBS + MIDDLE_WEBS + [LONG]:
            painting = chance_painting(web, 2)
            here, row = painting, []
            for seed in range(4):
                means = tuple(sorted({near_own(web, here, seed), plain_own(web, painting)}))
                deed = chance.choice(plain_steps(web, means, here, True))
                row.append(deed)
                here = plain_behind(web, here, deed)
            row = tuple(row)
            moved += here != painting
            itself = tuple((at, (line[0], line[-1]) if is_tie(web, line) else ())
                           for at, (_, line) in enumerate(plain_lines(web, painting)))
            self.assertEqual(done(web, painting, row + row[::-1]), painting)
            self.assertEqual(heirs_along(web, painting, row + row[::-1]), itself)
            self.assertEqual(gone_along(web, painting, row + row[::-1]), tuple((end, end) for end in plain_ends(web)))
        self.assertGreater(moved, 20)

    def test_two_rows_to_one_painting_may_tell_unlike_heirs(self):
        # Two turns by own matings of another painting's: in the star two ties go round.
        found = 0
        for web in [STAR, BOARD]:
            painting = chance_painting(web, 1)
            told = set()
            for seed in range(40):
                row = keeping_row(web, painting, Random(seed), 4)
                if done(web, painting, row) == painting:
                    told.add(heirs_along(web, painting, row))
            found += len(told) > 1
        self.assertGreater(found, 0)

    def test_sixty_deeds_and_sixty_one(self):
        for web, painting in ((STAR, (0, 1)), (EMPTY, ()), (LONG, chance_painting(LONG, 1))):
            turn = ("turn", (2,) * web[0])
            row = (("bare",), turn) * 30
            self.assertIs(are_deeds(web, painting, row), True)
            self.assertEqual(done(web, painting, row), plain_met(web, painting, row)[-1])
            self.assertEqual(heirs_along(web, painting, row), plain_heirs_along(web, painting, row))
            for thing in (row + (("bare",),), row * 2, (("bare",),) * 61):
                self.assertIs(are_deeds(web, painting, thing), False)
                for ask in (done, all_keep, heirs_along, gone_along):
                    with self.assertRaises(NoDeeds):
                        ask(web, painting, thing)


class TestJudging(unittest.TestCase):
    def check(self, web, painting, thing):
        wanted = plain_are_deeds(web, painting, thing)
        self.assertIs(are_deeds(web, painting, thing), wanted, thing)
        if not wanted:
            for ask in (done, all_keep, heirs_along, gone_along):
                with self.assertRaises(NoDeeds):
                    ask(web, painting, thing)
        return wanted

    def test_anything(self):
        for thing in ANYTHING:
            for other in (thing, (thing,), (("bare",), thing), [thing], (("turn", thing),), (("flip", (0,), thing),)):
                self.check(EIGHT, (0,), other)
        for word in ("", "turn", "flip", "bare", "Bare", None, 0):
            for rest in ((), ((0,),), ((0,), (0,)), ((0,), ()), (0,)):
                self.check(EIGHT, (0,), ((word,) + rest,))

    def test_near_right_rows(self):
        right = wrong = 0
        for web, painting, row in list(samples())[:70:3]:
            if web[0] > 6 or len(row) > 3:
                continue
            for thing in spoiled(row):
                told = self.check(web, painting, thing)
                right, wrong = right + told, wrong + (not told)
        self.assertGreater(right, 50)
        self.assertGreater(wrong, 1000)

    def test_a_deed_of_the_first_painting_but_not_of_what_it_meets(self):
        met = 0
        for web, painting, mating in small_samples(2, 6):
            many = len(plain_clusters(web, painting, mating))
            deed = ("flip", mating, tuple(range(many)))
            for other in (("turn", tuple((at + 1) % 3 for at in mating)), ("bare",)):
                then = plain_behind(web, painting, other)
                if len(plain_clusters(web, then, mating)) < many:
                    self.assertIs(are_deeds(web, painting, (deed,)), True)
                    self.assertIs(self.check(web, painting, (other, deed)), False)
                    met += 1
        self.assertGreater(met, 3)

    def test_order(self):
        for ask in (done, all_keep, heirs_along, gone_along, are_deeds):
            with self.assertRaises(NoWeb):
                ask(None, None, None)
            with self.assertRaises(NoPainting):
                ask(EIGHT, None, None)

    def test_no_deeds_ahead_of_loud(self):
        met = 0
        for web, painting, mating in small_samples(3, 6):
            loud = plain_loud(web, painting, mating)
            if loud:
                flip = ("flip", mating, loud)
                for ask in (heirs_along, gone_along):
                    with self.assertRaises(Loud) as caught:
                        ask(web, painting, (("bare",), ("bare",), flip))
                    self.assertEqual(caught.exception.cluster, loud[0])
                    with self.assertRaises(NoDeeds):
                        ask(web, painting, (flip, ("bare", 1)))
                self.assertIs(all_keep(web, painting, (flip,)), False)
                met += 1
        self.assertGreater(met, 10)

    def test_rows_told_are_tuples_of_numbers(self):
        told = heirs_along(BOARD, chance_painting(BOARD, 0), (("turn", (0, 1, 1, 0)),))
        self.assertTrue(alike(told, tuple((number, tuple(ends)) for number, ends in told)))


if __name__ == "__main__":
    unittest.main()
