"""[34]: webs beside one another, sewn, opened, joined; paintings and labels with them."""

import unittest
from random import Random

from plain_deeds import MIDDLE_WEBS, chance_painting
from plain_joins import (
    alike_pairs, chance_pairs, plain_beside, plain_is_pairs, plain_moved, plain_opened, plain_opened_labels, plain_sewn,
    plain_sewn_labels,
)
from plain_products import chance_labels
from support import (
    ANYTHING, BIG_WEBS, BOARD, EIGHT, EMPTY, LONG, LOOP_AND_ENDS, ROUND, SMALL_WEBS, STAR, board, is_strictly_rising, ladder,
    plain_ends, plain_paintings, spoiled, whole_row,
)
from tiewheel.joins.joins import (
    beside, is_pairs, joined, opened, opened_labels, opened_painting, sewn, sewn_labels, sewn_painting,
)
from tiewheel.paintings.paintings import is_painting
from tiewheel.products.labels import is_labels
from tiewheel.webs.errors import NoJoin, NoLabels, NoPainting, NoWeb, TooWide
from tiewheel.webs.webs import is_web

WEBS = SMALL_WEBS + MIDDLE_WEBS + [LONG, ROUND, board(6, 10)]


def openings(web, seed):
    """Numbers of some ways of two hands."""
    chance = Random(seed)
    return tuple(at for at, way in enumerate(web[1]) if len(way) == 2 and chance.random() < 0.4)


def joints_of(one, other, seed):
    chance = Random(seed)
    many = chance.randint(0, min(len(plain_ends(one)), len(plain_ends(other))))
    return tuple(sorted(zip(chance.sample(plain_ends(one), many), chance.sample(plain_ends(other), many))))


def plain_is_joints(one, other, thing):
    if not isinstance(thing, tuple) or not all(whole_row(pair) and len(pair) == 2 for pair in thing):
        return False
    if not is_strictly_rising(thing):
        return False
    for at, web in enumerate((one, other)):
        ends = [pair[at] for pair in thing]
        if len(ends) != len(set(ends)) or not all(end in plain_ends(web) for end in ends):
            return False
    return True


class TestBeside(unittest.TestCase):
    def test_webs(self):
        for one in WEBS[::3]:
            for other in WEBS[::4]:
                if one[0] + other[0] <= 60:
                    told = beside(one, other)
                    self.assertEqual(told, plain_beside(one, other))
                    self.assertTrue(is_web(told))
                    self.assertEqual(told[1][:len(one[1])], one[1])

    def test_paintings_and_matings_are_the_one_s_then_the_other_s(self):
        one, other = BOARD, LOOP_AND_ENDS
        for painting in plain_paintings(one)[::5]:
            for more in plain_paintings(other):
                both = painting + tuple(at + len(one[1]) for at in more)
                self.assertTrue(is_painting(beside(one, other), both))

    def test_sixty_posts_and_sixty_one(self):
        for one, other in ((ladder(30), ladder(30)), (LONG, EMPTY), (EMPTY, ROUND), (ladder(59), STAR)):
            self.assertTrue(is_web(beside(one, other)))
            self.assertTrue(is_web(joined(one, other, ())))
        for one, other in ((ladder(30), ladder(31)), (LONG, STAR), (EIGHT, ROUND), (LONG, LONG)):
            for ask in (beside, lambda one, other: joined(one, other, ())):
                with self.assertRaises(TooWide) as caught:
                    ask(one, other)
                self.assertEqual(repr(caught.exception.most), "60")

    def test_order(self):
        for ask, more in ((beside, ()), (joined, (None,))):
            with self.assertRaises(NoWeb):
                ask(None, LONG, *more)
            with self.assertRaises(NoWeb):
                ask(LONG, None, *more)
        # TooWide last of all.
        for thing in (None, [], ((0, 0), (0, 1)), ((240, 0),)):
            with self.assertRaises(NoJoin):
                joined(LONG, LONG, thing)


class TestPairs(unittest.TestCase):
    def test_anything(self):
        for web in (EMPTY, EIGHT, STAR, LOOP_AND_ENDS, BOARD):
            for thing in ANYTHING:
                self.assertIs(is_pairs(web, thing), plain_is_pairs(web, thing), thing)
        with self.assertRaises(NoWeb):
            is_pairs(None, ())

    def test_near_right_pairs(self):
        right = wrong = 0
        for web in (STAR, LOOP_AND_ENDS, BOARD, board(2, 3)):
            for seed in range(6):
                for thing in spoiled(chance_pairs(web, seed)):
                    wanted = plain_is_pairs(web, thing)
                    self.assertIs(is_pairs(web, thing), wanted, thing)
                    if not wanted:
                        for ask, more in ((sewn, ()), (sewn_painting, (chance_painting(web, 1),)),
                                          (sewn_labels, (((0, 1),) * len(web[1]),))):
                            with self.assertRaises(NoJoin):
                                ask(web, *more, thing)
                    right, wrong = right + wanted, wrong + (not wanted)
        self.assertGreater(right, 20)
        self.assertGreater(wrong, 500)

    def test_by_hand(self):
        for thing, wanted in ((((0, 1),), True), (((0, 1), (2, 3)), True), (((2, 3), (0, 1)), False), (((1, 0),), False),
                              (((0, 1), (1, 2)), False), (((0, 0),), False), (((0, 4),), False), ((), True), ([], False),
                              (([0, 1],), False), (((0, True),), False), (((False, 1),), False), (((0, 1, 2),), False)):
            self.assertIs(is_pairs(STAR, thing), wanted, thing)
        self.assertIs(is_pairs(LOOP_AND_ENDS, ((1, 3),)), True)
        self.assertIs(is_pairs(LOOP_AND_ENDS, ((0, 1),)), False)


class TestSewn(unittest.TestCase):
    def test_webs(self):
        self.assertEqual(sewn(STAR, ((0, 3),)), (1, ((0, 3), (1,), (2,))))
        for web in WEBS:
            for seed in range(3):
                pairs = chance_pairs(web, seed)
                told = sewn(web, pairs)
                self.assertEqual(told, plain_sewn(web, pairs))
                self.assertTrue(is_web(told))
                ways = tuple(at for at, way in enumerate(told[1]) if way in pairs)
                self.assertEqual(opened(told, ways), web)

    def test_opened_webs(self):
        self.assertEqual(opened(EIGHT, (0,)), (1, ((0,), (1,), (2, 3))))
        for web in WEBS:
            for seed in range(3):
                ways = openings(web, seed)
                told = opened(web, ways)
                self.assertEqual(told, plain_opened(web, ways))
                self.assertTrue(is_web(told))
                self.assertEqual(sewn(told, tuple(web[1][at] for at in ways)), web)

    def test_paintings_and_labels_there_and_back(self):
        for web in WEBS:
            painting = chance_painting(web, 2)
            for seed in range(5):
                labels = chance_labels(web, 1 + seed, seed)
                ways = openings(web, seed)
                there = opened(web, ways)
                hands = tuple(web[1][at] for at in ways)
                told = opened_painting(web, painting, ways)
                self.assertEqual(told, plain_moved(web, there, painting))
                self.assertTrue(is_painting(there, told))
                self.assertEqual(sewn_painting(there, told, hands), painting)
                carried = opened_labels(web, labels, ways)
                self.assertEqual(carried, plain_opened_labels(web, labels, ways))
                self.assertTrue(is_labels(there, carried))
                self.assertEqual(sewn_labels(there, carried, hands), labels)

    def test_sewn_paintings_and_labels(self):
        for web in WEBS:
            painting = chance_painting(web, 3)
            for seed in range(4):
                pairs = alike_pairs(web, painting, seed)
                there = plain_sewn(web, pairs)
                told = sewn_painting(web, painting, pairs)
                self.assertEqual(told, plain_moved(web, there, painting))
                self.assertTrue(is_painting(there, told))
                ways = tuple(at for at, way in enumerate(there[1]) if way in pairs)
                self.assertEqual(opened_painting(there, told, ways), painting)
                labels = chance_labels(web, 1 + seed, seed)
                carried = sewn_labels(web, labels, pairs)
                self.assertEqual(carried, plain_sewn_labels(web, labels, pairs))
                self.assertTrue(is_labels(there, carried))

    def test_labels_by_hand(self):
        labels = ((1, 0, 2), (0, 1, 2), (0, 1, 2), (1, 2, 0))
        # Out by the end 0, in by the end 3.
        self.assertEqual(sewn_labels(STAR, labels, ((0, 3),)), ((2, 1, 0), (0, 1, 2), (0, 1, 2)))
        self.assertEqual(opened_labels(EIGHT, ((1, 2, 0), (2, 0, 1)), (1,)), ((1, 2, 0), (0, 1, 2), (2, 0, 1)))
        self.assertEqual(sewn_labels(EMPTY, (), ()), ())
        self.assertEqual(opened_labels(EMPTY, (), ()), ())

    def test_no_join_just_where_two_ends_are_unlike(self):
        met = set()
        for web in (STAR, LOOP_AND_ENDS, BOARD, board(2, 3)):
            for painting in plain_paintings(web)[::7]:
                for seed in range(8):
                    pairs = chance_pairs(web, seed)
                    wanted = plain_moved(web, plain_sewn(web, pairs), painting)
                    if wanted is None:
                        with self.assertRaises(NoJoin):
                            sewn_painting(web, painting, pairs)
                    else:
                        self.assertEqual(sewn_painting(web, painting, pairs), wanted)
                    met.add((wanted is None, len(pairs) > 1))
        self.assertEqual(len(met), 4)

    def test_rows_of_none(self):
        for web in WEBS:
            painting, labels = chance_painting(web, 1), chance_labels(web, 3, 1)
            self.assertEqual((sewn(web, ()), opened(web, ())), (web, web))
            self.assertEqual((sewn_painting(web, painting, ()), opened_painting(web, painting, ())), (painting, painting))
            self.assertEqual((sewn_labels(web, labels, ()), opened_labels(web, labels, ())), (labels, labels))
            if web[0] < 60:
                self.assertEqual(joined(web, EMPTY, ()), web)

    def test_no_openings(self):
        asks = ((opened, ()), (opened_painting, ((0,),)), (opened_labels, (((0,),) * 3,)))
        right = {repr(()), repr((0,))}
        for thing in ANYTHING + spoiled((0,)) + [(1,), (2,), (0, 1), (0, 0), (3,), (-1,), (10 ** 39,)]:
            for ask, more in asks:
                if repr(thing) in right:
                    ask(LOOP_AND_ENDS, *more, thing)
                else:
                    with self.assertRaises(NoJoin):
                        ask(LOOP_AND_ENDS, *more, thing)
        with self.assertRaises(NoJoin):
            opened(EIGHT, (1, 0))

    def test_order(self):
        for ask, error in ((sewn_painting, NoPainting), (opened_painting, NoPainting), (sewn_labels, NoLabels),
                           (opened_labels, NoLabels)):
            with self.assertRaises(NoWeb):
                ask(None, None, None)
            for thing in ANYTHING:
                if not (thing == () and error is NoLabels):
                    with self.assertRaises(error):
                        ask(STAR, thing, None)
        for ask in (sewn, opened):
            with self.assertRaises(NoWeb):
                ask(None, None)


class TestJoined(unittest.TestCase):
    def test_both_beside_sewn(self):
        self.assertEqual(joined(STAR, STAR, ((0, 3), (3, 0))), (2, ((0, 7), (1,), (2,), (3, 4), (5,), (6,))))
        for one in WEBS[::3] + [BOARD]:
            for other in WEBS[::4] + [BOARD]:
                if one[0] + other[0] <= 60:
                    for seed in range(2):
                        joints = joints_of(one, other, seed)
                        pairs = tuple((end, further + 4 * one[0]) for end, further in joints)
                        told = joined(one, other, joints)
                        self.assertEqual(told, plain_sewn(plain_beside(one, other), pairs))
                        self.assertTrue(is_web(told))

    def test_no_joints(self):
        right = wrong = 0
        for one, other in ((STAR, LOOP_AND_ENDS), (LOOP_AND_ENDS, STAR), (BOARD, STAR), (STAR, EMPTY)):
            things = ANYTHING + [thing for seed in range(4) for thing in spoiled(joints_of(one, other, seed))]
            things += [((0, 1), (0, 3)), ((0, 1), (3, 1)), ((3, 1), (0, 3)), ((0, 1), (3, 3)), ((0, 0),), ((5, 1),)]
            for thing in things:
                if plain_is_joints(one, other, thing):
                    joined(one, other, thing)
                    right += 1
                else:
                    with self.assertRaises(NoJoin, msg=thing):
                        joined(one, other, thing)
                    wrong += 1
        self.assertGreater(right, 10)
        self.assertGreater(wrong, 300)

    def test_big_webs(self):
        for web in BIG_WEBS:
            pairs = chance_pairs(web, 1)
            self.assertTrue(is_web(sewn(web, pairs)))


if __name__ == "__main__":
    unittest.main()
