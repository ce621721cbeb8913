"""[26]: led or never, shells, lots, and judges of such papers."""

import unittest
from random import Random

from plain_deeds import chance_painting, near_own, plain_behind, small_samples
from plain_led import plain_far, plain_shells, plain_shows_led
from plain_products import plain_kin, plain_kin_number, plain_steps
from support import (
    ANYTHING, BOARD, EIGHT, EMPTY, LONG, LOOP_AND_ENDS, ROUND, STAR, board, plain_own, plain_paintings, random_mating,
    random_web, spoiled,
)
from tiewheel.led.led import fewest, led_to, shows_led
from tiewheel.webs.errors import NoMating, NoNumber, NoPainting, NoWeb, TooWide


def samples():
    """(web, means, painting, other), the other one kin or not."""
    chance = Random(4)
    for web, painting, mating in small_samples(2, 2):
        rows = plain_paintings(web)
        means = tuple(sorted({mating, random_mating(chance.random(), web), near_own(web, painting, 2)})[:chance.randint(1, 3)])
        for other in {painting, rows[0], rows[-1], rows[chance.randrange(len(rows))]}:
            yield web, means, painting, other
    for web in [board(2, 3), board(3, 3), random_web(206, 8, 8), random_web(211, 8, 8)]:
        for seed in range(3):
            painting = chance_painting(web, seed)
            means = tuple(sorted({random_mating(seed, web), plain_own(web, painting)}))
            kin = plain_kin(web, means, painting, seed > 0, 60)
            for other in {kin[0], kin[-1], kin[len(kin) // 2], chance_painting(web, seed + 7)}:
                yield web, means, painting, other


class TestLed(unittest.TestCase):
    def test_by_hand(self):
        self.assertEqual(led_to(STAR, ((2,),), (0, 1), (0, 1)), ("row", (), (((0, 1),),)))
        self.assertEqual(led_to(STAR, ((2,),), (0, 1), (0, 3)), (
            "row", (("flip", (2,), (1,)),), (((0, 1),), ((0, 3), (1, 2))),
        ))
        self.assertEqual(led_to(STAR, ((2,),), (0, 1), (0, 2)), ("never", ((0, 1), (0, 3), (1, 2), (2, 3))))
        self.assertEqual(led_to(STAR, ((2,),), (0, 1), (0, 3), flips=False), ("never", ((0, 1),)))
        self.assertEqual(fewest(STAR, ((2,),), (0, 1), (2, 3)), 2)
        self.assertIsNone(fewest(STAR, ((2,),), (0, 1), (1, 3)))
        self.assertEqual(led_to(EMPTY, ((),), (), ()), ("row", (), (((),),)))
        self.assertEqual(led_to(EIGHT, ((0,),), (0,), (1,)), ("row", (("flip", (0,), (0,)),), (((0,),), ((1,),))))

    def test_against_a_plain_walk(self):
        met = set()
        for web, means, painting, other in samples():
            for flips in (True, False):
                shells = plain_shells(web, means, painting, flips, 60)
                if shells is None:
                    with self.assertRaises(TooWide) as caught:
                        led_to(web, means, painting, other, flips=flips)
                    self.assertEqual(repr(caught.exception.most), "60")
                    continue
                far = plain_far(shells, other)
                told = led_to(web, means, painting, other, flips=flips)
                self.assertEqual(repr(fewest(web, means, painting, other, flips=flips)), repr(far))
                self.assertEqual(told[0], "never" if far is None else "row")
                self.assertTrue(plain_shows_led(web, means, painting, other, told, flips), told)
                self.assertIs(shows_led(web, means, painting, other, told, flips=flips), True)
                if far is not None:
                    self.assertEqual(len(told[1]), far)
                    self.assertEqual(len(told[2]), far + 1)
                met.add((told[0], far, flips))
        self.assertTrue({("row", 0, True), ("row", 1, True), ("row", 2, True), ("row", 3, True), ("never", None, True)} <= met)
        self.assertTrue({("row", 0, False), ("row", 1, False), ("never", None, False)} <= met)

    def test_too_wide_wherever_the_other_one_is(self):
        for web, means, painting, other in list(samples())[::2]:
            kin = plain_kin(web, means, painting, True, 60)
            for most in (1, 2, len(kin) - 1):
                if 1 <= most < len(kin):
                    for end in (painting, other, kin[-1]):
                        for ask in (led_to, fewest):
                            with self.assertRaises(TooWide) as caught:
                                ask(web, means, painting, end, most=most)
                            self.assertEqual(repr(caught.exception.most), repr(most))
            if len(kin) <= 60:
                self.assertEqual(led_to(web, means, painting, painting, most=len(kin)), ("row", (), ((painting,),)))

    def test_order_of_refusals(self):
        for ask in (led_to, fewest):
            with self.assertRaises(NoWeb):
                ask(None, None, None, None, most=0)
            with self.assertRaises(NoMating):
                ask(EIGHT, None, None, None, most=0)
            with self.assertRaises(NoPainting):
                ask(EIGHT, ((0,),), None, (0,), most=0)
            with self.assertRaises(NoPainting):
                ask(EIGHT, ((0,),), (0,), None, most=0)
            for most in (0, 401, True, None, "1", (1,), -1, 10 ** 39):
                with self.assertRaises(NoNumber) as caught:
                    ask(EIGHT, ((0,),), (0,), (1,), most=most)
                self.assertIs(caught.exception.number, most)
            with self.assertRaises(TooWide):
                ask(EIGHT, ((0,),), (0,), (0,), most=1)
        for wrong, right in ((NoWeb, 0), (NoMating, 1), (NoPainting, 2), (NoPainting, 3)):
            things = [EIGHT, ((0,),), (0,), (1,)]
            things[right:] = [None] * (4 - right)
            with self.assertRaises(wrong):
                shows_led(*things, None)
        with self.assertRaises(NoPainting):
            shows_led(EIGHT, ((0,),), None, (1,), None)

    def test_sixty_posts(self):
        for web in (LONG, ROUND):
            painting = chance_painting(web, 1)
            own = plain_own(web, painting)
            means = tuple(sorted((own, (2,) * 60)))
            shells = plain_shells(web, means, painting, False, 400)
            other = shells[-1][0]
            told = led_to(web, means, painting, other, flips=False, most=400)
            self.assertEqual(len(told[1]), len(shells) - 1)
            self.assertIs(shows_led(web, means, painting, other, told, flips=False), True)
            # All posts crossed, and between each two of them a cell that is quiet.
            along = tuple(number for number, way in enumerate(web[1]) if way[0] % 2 == 0)
            self.assertGreater(plain_kin_number(web, along, (0,) * 60), 400)
            with self.assertRaises(TooWide):
                led_to(web, ((0,) * 60,), along, along, most=400)
            self.assertEqual(fewest(web, ((0,) * 60,), along, along, flips=False), 0)


class TestShowsLed(unittest.TestCase):
    def test_right_papers_that_are_told_otherwise(self):
        # Flips in another order, and shells larger than needed, the last one or amid.
        painting, other = (0, 1), (2, 3)
        one, two = ("flip", (2,), (0,)), ("flip", (2,), (1,))
        shells = (((0, 1),), ((0, 3), (1, 2)), ((2, 3),))
        for deeds in ((one, two), (two, one)):
            self.assertIs(shows_led(STAR, ((2,),), painting, other, ("row", deeds, shells)), True)
        wide = (((0, 1),), ((0, 3), (1, 2)), ((0, 2), (1, 3), (2, 3)))
        self.assertIs(shows_led(STAR, ((2,),), painting, other, ("row", (one, two), wide)), True)
        amid = (((0, 1),), ((0, 2), (0, 3), (1, 2), (1, 3)), ((2, 3),))
        self.assertIs(shows_led(STAR, ((2,),), painting, other, ("row", (one, two), amid)), True)
        lot = ((0, 1), (0, 3), (1, 2), (1, 3), (2, 3))
        # From (1, 3) steps lead to (0, 2), unless turns alone are done.
        self.assertIs(shows_led(STAR, ((2,),), painting, (0, 2), ("never", lot)), False)
        self.assertIs(shows_led(STAR, ((2,),), painting, (0, 2), ("never", lot), flips=False), True)

    def test_lots_larger_than_the_kin(self):
        right = 0
        for web, means, painting, other in samples():
            if web[0] > 3:
                continue
            shells = plain_shells(web, means, painting, True)
            if plain_far(shells, other) is None:
                lot = set(plain_kin(web, means, painting, True))
                for more in plain_paintings(web):
                    if other not in plain_kin(web, means, more, True):
                        lot |= set(plain_kin(web, means, more, True))
                self.assertIs(shows_led(web, means, painting, other, ("never", tuple(sorted(lot)))), True)
                right += len(lot) > len(plain_kin(web, means, painting, True))
                self.assertIs(shows_led(web, means, painting, other, ("never", tuple(sorted(lot | {other})))), False)
                for gone in sorted(lot):
                    thing = ("never", tuple(sorted(lot - {gone})))
                    wanted = plain_shows_led(web, means, painting, other, thing, True)
                    self.assertIs(shows_led(web, means, painting, other, thing), wanted)
        self.assertGreater(right, 5)

    def test_more_paintings_than_may_be_told(self):
        web = board(2, 3)
        means = ((0, 1, 0, 1, 0, 1),)
        for painting in plain_paintings(web)[::40]:
            kin = set(plain_kin(web, means, painting, True))
            other = [row for row in plain_paintings(web) if row not in kin][0]
            away = set(plain_kin(web, means, other, True))
            lot = tuple(row for row in plain_paintings(web) if row not in away)
            self.assertGreater(len(lot), 60)
            self.assertIs(shows_led(web, means, painting, other, ("never", lot)), True)

    def test_near_right_papers(self):
        right = wrong = 0
        for web, means, painting, other in list(samples())[::3]:
            shells = plain_shells(web, means, painting, True, 20)
            if web[0] > 4 or shells is None:
                continue
            told = led_to(web, means, painting, other)
            for thing in spoiled(told) + self.turned_about(told):
                wanted = plain_shows_led(web, means, painting, other, thing, True)
                self.assertIs(shows_led(web, means, painting, other, thing), wanted, thing)
                right, wrong = right + wanted, wrong + (not wanted)
        self.assertGreater(wrong, 2000)

    def turned_about(self, told):
        if told[0] == "never":
            return [("never", told[1][::-1]), ("never", told[1] * 2), ("never", list(told[1])), ("row", (), (told[1],))]
        _, deeds, shells = told
        things = [("row", deeds[::-1], shells), ("row", deeds, shells[::-1]), ("row", deeds + deeds, shells),
                  ("row", deeds, shells + ((),)), ("row", list(deeds), shells), ("row", deeds, list(shells)),
                  ("never", shells), ("never", shells[0]), ("row", deeds, ((),) + shells[1:])]
        for at, shell in enumerate(shells):
            for place in range(len(shells)):
                more = tuple(sorted(set(shells[place]) | set(shell)))
                things.append(("row", deeds, shells[:place] + (more,) + shells[place + 1:]))
            for gone in shell:
                less = tuple(row for row in shell if row != gone)
                things.append(("row", deeds, shells[:at] + (less,) + shells[at + 1:]))
            things.append(("row", deeds, shells[:at] + (shell[::-1],) + shells[at + 1:]))
        return things

    def test_rows_that_are_not_as_few_as_can_be(self):
        for web, means, painting, other in list(samples())[::4]:
            steps = plain_steps(web, means, painting, True)
            if web[0] > 4:
                continue
            # One step and the same one back, with whatever shells.
            deeds = (steps[0], steps[0])
            then = plain_behind(web, painting, steps[0])
            for shells in (((painting,), (then,), (painting,)), ((painting,), (then,), ()), ((painting,),) * 3):
                self.assertIs(shows_led(web, means, painting, painting, ("row", deeds, shells)), False)

    def test_deeds_that_are_no_steps(self):
        # A flip of two clusters at once, bare, a flip of none, of a loud one, by other means.
        shells = (((0, 1),), ((0, 3), (1, 2), (2, 3)))
        for deed in (("flip", (2,), (0, 1)), ("bare",), ("flip", (1,), (0, 1)), ("flip", (2,), ()), ("turn", (2,))):
            self.assertIs(shows_led(STAR, ((2,),), (0, 1), (2, 3), ("row", (deed,), shells)), False, deed)
        self.assertIs(shows_led(STAR, ((2,),), (0, 1), (0, 3), ("row", (("flip", (2,), (1,)),), shells)), True)
        self.assertIs(shows_led(STAR, ((2,),), (0, 1), (0, 3), ("row", (("flip", (2,), (True,)),), shells)), False)
        self.assertIs(shows_led(STAR, ((2,),), (0, 1), (0, 3), ("row", (("flip", (2,), (1,)),), shells), flips=False), False)
        self.assertIs(shows_led(STAR, ((1,),), (0, 1), (0, 3), ("row", (("flip", (2,), (1,)),), shells)), False)

    def test_anything(self):
        for thing in ANYTHING:
            self.assertIs(shows_led(STAR, ((2,),), (0, 1), (0, 3), thing), False)
            self.assertIs(shows_led(EMPTY, ((),), (), (), thing), False)
            for other in (("row", thing, (((0, 1),),)), ("row", (), thing), ("never", thing), ("row", (thing,), ((), ())),
                          ("row", (), (thing,)), ("never", (thing,)), (thing, ()), (thing, (), (((0,),),))):
                wanted = plain_shows_led(LOOP_AND_ENDS, ((1,),), (0,), (0,), other, True)
                self.assertIs(shows_led(LOOP_AND_ENDS, ((1,),), (0,), (0,), other), wanted, other)

    def test_a_board(self):
        means = ((0, 1, 1, 0), (1, 0, 0, 1))
        for painting in plain_paintings(BOARD)[::5]:
            for other in plain_paintings(BOARD)[::7]:
                told = led_to(BOARD, means, painting, other, most=400)
                self.assertIs(shows_led(BOARD, means, painting, other, told), True)
                back = led_to(BOARD, means, other, painting, most=400)
                self.assertEqual(told[0], back[0])
                if told[0] == "row":
                    self.assertEqual(len(told[1]), len(back[1]))


if __name__ == "__main__":
    unittest.main()
