"""[17]: what deeds are, what comes of them, which keep."""

import unittest

from plain_deeds import (
    keeping_deeds, large_samples, middle_samples, plain_behind, plain_clusters, plain_first_loud, plain_is_deed,
    plain_loud, small_samples,
)
from support import ANYTHING, BOARD, EIGHT, EMPTY, STAR, plain_is_painting, plain_own, plain_paintings, spoiled
from tiewheel.clusters.flips import flipped, turned
from tiewheel.heirs.deeds import behind, is_deed, keeps
from tiewheel.paintings.paintings import bared
from tiewheel.webs.errors import NoDeeds, NoPainting, NoWeb


def all_samples():
    return list(small_samples()) + list(middle_samples()) + list(large_samples())


def wrong_deeds(web, mating, many):
    """Much like deeds, of a mating by which there are so many clusters."""
    more = mating + (0,)
    return [
        (), ("bare", ()), ("bare", None), ("bare", "bare"), "bare", ["bare"], {"bare": ()}, ("Bare",), ("bare ",), (0,),
        ("turn",), ("turn", ()) if mating else ("turn", (0,)), ("turn", mating, ()), ("turn", mating, None),
        ["turn", mating], ("turn", list(mating)), ("turn", more), ("turn", (3,) * len(mating)) if mating else ("turn", 0),
        ("turn", None), ("Turn", mating), ("turns", mating), (mating, "turn"), ("turn", (True,) * len(more)),
        ("flip",), ("flip", mating), ("flip", mating, None), ("flip", mating, []), ("flip", mating, [0]),
        ("flip", mating, (many,)), ("flip", mating, (-1,)), ("flip", mating, (True,)), ("flip", mating, (False,)),
        ("flip", mating, (0, 0)), ("flip", mating, (1, 0)), ("flip", mating, (10 ** 39,)), ("flip", mating, 0),
        ("flip", mating, (), ()), ("flip", more, ()), ("flip", (), mating) if mating else ("flip", (), 0),
        ("flop", mating, ()), ("flip", list(mating), ()), ["flip", mating, ()], ("turn", mating, (0,)), ("flip", "0", ()),
        (("turn", mating),), (("bare",),), ("turn", ("turn", mating)), ("flip", mating, ("0",)), None, True, 0, {},
    ]


class TestIsDeed(unittest.TestCase):
    def test_deeds_are_deeds(self):
        for web, painting, mating in all_samples():
            many = len(plain_clusters(web, painting, mating))
            flips = [(), tuple(range(many)), tuple(range(0, many, 2))] + [(at,) for at in range(many)][:4]
            for deed in [("bare",), ("turn", mating)] + [("flip", mating, row) for row in flips]:
                self.assertIs(is_deed(web, painting, deed), True)

    def test_what_is_none(self):
        for web, painting, mating in list(small_samples(1, 3)) + list(large_samples()):
            many = len(plain_clusters(web, painting, mating))
            for thing in wrong_deeds(web, mating, many):
                self.assertFalse(plain_is_deed(web, painting, thing), thing)
                self.assertIs(is_deed(web, painting, thing), False, thing)
                for asked in (behind, keeps):
                    with self.assertRaises(NoDeeds):
                        asked(web, painting, thing)

    def test_anything(self):
        for web, painting, mating in small_samples(1, 3):
            many = len(plain_clusters(web, painting, mating))
            things = ANYTHING + spoiled(("bare",)) + spoiled(("turn", mating))
            things += spoiled(("flip", mating, tuple(range(many)))) + spoiled(("flip", mating, (0,)))
            for thing in things:
                self.assertIs(is_deed(web, painting, thing), plain_is_deed(web, painting, thing), thing)

    def test_flips_of_another_matings_clusters(self):
        # By the mating 2 the star has two clusters, by its own one just one.
        self.assertIs(is_deed(STAR, (0, 1), ("flip", (2,), (1,))), True)
        self.assertIs(is_deed(STAR, (0, 1), ("flip", (0,), (1,))), False)
        # Of the painting it is: the same mating has two clusters of this one, one of that.
        self.assertIs(is_deed(STAR, (0, 2), ("flip", (2,), (1,))), False)
        self.assertIs(is_deed(STAR, (0, 2), ("flip", (0,), (1,))), True)

    def test_a_mating_of_another_web(self):
        self.assertIs(is_deed(STAR, (0, 1), ("turn", (0, 0))), False)
        self.assertIs(is_deed(STAR, (0, 1), ("turn", ())), False)
        painting = plain_paintings(BOARD)[0]
        self.assertIs(is_deed(BOARD, painting, ("turn", (0,))), False)
        self.assertIs(is_deed(BOARD, painting, ("turn", (0,) * 4)), True)


class TestBehind(unittest.TestCase):
    def test_what_comes_of_deeds(self):
        for web, painting, mating in all_samples():
            for deed in keeping_deeds(web, painting, mating):
                then = behind(web, painting, deed)
                self.assertEqual(then, plain_behind(web, painting, deed))
                self.assertTrue(plain_is_painting(web, then))
                self.assertIs(keeps(web, painting, deed), True)
                self.assertEqual(behind(web, then, deed), painting)
            self.assertEqual(behind(web, painting, ("bare",)), bared(web, painting))
            self.assertEqual(behind(web, painting, ("turn", mating)), turned(web, painting, mating))

    def test_loud_flips_are_done_but_do_not_keep(self):
        met = set()
        for web, painting, mating in all_samples():
            many = len(plain_clusters(web, painting, mating))
            for flips in [tuple(range(many)), plain_loud(web, painting, mating)] + [(at,) for at in range(min(many, 5))]:
                deed = ("flip", mating, flips)
                self.assertEqual(behind(web, painting, deed), flipped(web, painting, mating, flips))
                loud = plain_first_loud(web, painting, deed)
                self.assertIs(keeps(web, painting, deed), loud is None)
                met.add(loud is None)
        self.assertEqual(met, {True, False})

    def test_all_turns_keep(self):
        for web, painting, mating in all_samples():
            self.assertIs(keeps(web, painting, ("turn", mating)), True)
            self.assertIs(keeps(web, painting, ("turn", plain_own(web, painting))), True)
            self.assertEqual(behind(web, painting, ("turn", plain_own(web, painting))), painting)


class TestRefusals(unittest.TestCase):
    def test_order(self):
        for ask in (is_deed, behind, keeps):
            with self.assertRaises(NoWeb):
                ask(None, None, None)
            with self.assertRaises(NoPainting):
                ask(EIGHT, None, None)
        for ask in (behind, keeps):
            with self.assertRaises(NoDeeds):
                ask(EIGHT, (0,), None)

    def test_the_web_of_no_posts(self):
        for deed in (("bare",), ("turn", ()), ("flip", (), ())):
            self.assertIs(is_deed(EMPTY, (), deed), True)
            self.assertEqual(behind(EMPTY, (), deed), ())
            self.assertIs(keeps(EMPTY, (), deed), True)
        for deed in (("turn", (0,)), ("flip", (), (0,)), ("flip", ()), ("turn",)):
            self.assertIs(is_deed(EMPTY, (), deed), False)


if __name__ == "__main__":
    unittest.main()
