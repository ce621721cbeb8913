"""[7]: paintings, bared, own matings, and what is owned."""

import unittest
from itertools import product

from support import (
    ANYTHING, BIG_WEBS, BOARD, EIGHT, EMPTY, FOUR_WAYS, LONG, LOOP_AND_ENDS, NESTED, ROUND, SMALL_WEBS, STAR, alike,
    plain_corner_strands, plain_matings, plain_own, plain_painted_ends, plain_painted_hands, plain_paintings,
    plain_strands, random_mating, spoiled, whole_row,
)
from tiewheel.matings.strands import strands_of
from tiewheel.paintings.fronts import painting_at
from tiewheel.paintings.paintings import (
    bared, is_painted, is_painting, own_mating, owned, painted_ends, shows_owned,
)
from tiewheel.webs.errors import NoHand


class TestPaintings(unittest.TestCase):
    def test_by_hand(self):
        self.assertEqual([is_painting(EIGHT, thing) for thing in ((0,), (1,), (0, 1), ())], [True, True, False, False])
        self.assertIs(is_painting(LOOP_AND_ENDS, (0,)), True)
        self.assertIs(is_painting(LOOP_AND_ENDS, (1, 2)), True)
        self.assertIs(is_painting(LOOP_AND_ENDS, (0, 1)), False)
        self.assertIs(is_painting(LOOP_AND_ENDS, (1,)), False)
        self.assertEqual([pair for pair in product(range(4), repeat=2) if is_painting(STAR, pair)], [
            (0, 1), (0, 2), (0, 3), (1, 2), (1, 3), (2, 3),
        ])

    def test_edges(self):
        self.assertIs(is_painting(EMPTY, ()), True)
        self.assertIs(is_painting(EMPTY, (0,)), False)
        self.assertIs(is_painting(STAR, (1, 0)), False)
        self.assertIs(is_painting(STAR, (1, 1)), False)
        self.assertIs(is_painting(STAR, (0, 1, 1)), False)
        self.assertIs(is_painting(EIGHT, (0, 0)), False)
        self.assertIs(is_painting(EIGHT, (2,)), False)
        self.assertIs(is_painting(EIGHT, (-1,)), False)
        self.assertIs(is_painting(EIGHT, (False,)), False)
        self.assertIs(is_painting(EIGHT, (True,)), False)
        self.assertIs(is_painting(EIGHT, [0]), False)

    def test_against_the_listing_and_of_anything(self):
        for web in SMALL_WEBS:
            right = plain_paintings(web)
            self.assertTrue(all(is_painting(web, painting) is True for painting in right))
            for thing in ANYTHING + [thing for painting in right[:6] for thing in spoiled(painting)]:
                self.assertIs(is_painting(web, thing), any(alike(thing, row) for row in right), thing)

    def test_what_is_told_of_a_painting(self):
        for web in SMALL_WEBS:
            right = plain_paintings(web)
            for painting in right[:60]:
                hands = plain_painted_hands(web, painting)
                bare = tuple(way for way in range(len(web[1])) if way not in painting)
                self.assertEqual(bared(web, painting), bare)
                self.assertIn(bare, right)
                self.assertEqual(own_mating(web, painting), plain_own(web, painting))
                self.assertEqual(own_mating(web, bare), plain_own(web, painting))
                self.assertEqual(painted_ends(web, painting), plain_painted_ends(web, painting))
                for hand in range(4 * web[0]):
                    self.assertIs(is_painted(web, painting, hand), hand in hands)

    def test_large_webs(self):
        for web in (LONG, ROUND):
            painting = painting_at(web, 12345678901234567)
            self.assertIs(is_painting(web, painting), True)
            self.assertIs(is_painting(web, painting[:-1]), False)
            self.assertEqual(sorted(bared(web, painting) + painting), list(range(len(web[1]))))
            self.assertEqual(own_mating(web, painting), plain_own(web, painting))
            self.assertEqual(painted_ends(web, painting), plain_painted_ends(web, painting))

    def test_own_strands_are_painted_or_bare_all_along(self):
        for web in SMALL_WEBS:
            for painting in plain_paintings(web)[:20]:
                hands = plain_painted_hands(web, painting)
                for row in plain_strands(web, own_mating(web, painting)):
                    self.assertEqual(len({hand in hands for hand in row}), 1)

    def test_is_painted_of_no_hand(self):
        for hand in (-1, 4, True, None, "0", [0]):
            with self.assertRaises(NoHand) as caught:
                is_painted(EIGHT, (0,), hand)
            self.assertIs(caught.exception.hand, hand)


def meet(web, mating, one, other):
    corners = [plain_corner_strands(web, mating, post) for post in range(web[0])]
    return [one, other] in corners or [other, one] in corners


def plain_shows_odd(web, mating, numbers):
    if not whole_row(numbers) or len(numbers) % 2 == 0:
        return False
    many = len(plain_strands(web, mating))
    if not all(0 <= number < many for number in numbers):
        return False
    return all(meet(web, mating, numbers[at - 1], numbers[at]) for at in range(len(numbers)))


def plain_shows_owned(web, mating, thing):
    if not isinstance(thing, tuple) or len(thing) != 2:
        return False
    if thing[0] == "painting":
        return any(alike(thing[1], row) and plain_own(web, row) == mating for row in plain_paintings(web))
    return thing[0] == "odd" and plain_shows_odd(web, mating, thing[1])


class TestOwned(unittest.TestCase):
    def test_by_hand(self):
        self.assertEqual(owned(EMPTY, ()), ("painting", ()))
        self.assertIn(owned(EIGHT, (0,)), (("painting", (0,)), ("painting", (1,))))
        self.assertEqual(owned(EIGHT, (1,))[0], "odd")
        self.assertIs(shows_owned(EIGHT, (1,), ("odd", (0,))), True)
        self.assertIs(shows_owned(EIGHT, (1,), ("odd", (0, 0, 0))), True)
        self.assertIs(shows_owned(EIGHT, (1,), ("odd", (0, 0))), False)
        self.assertIs(shows_owned(EIGHT, (1,), ("odd", ())), False)
        self.assertIs(shows_owned(EIGHT, (1,), ("painting", (0,))), False)
        self.assertIs(shows_owned(EIGHT, (0,), ("painting", (0,))), True)
        self.assertIs(shows_owned(EIGHT, (0,), ("painting", (1,))), True)
        self.assertIs(shows_owned(EIGHT, (0,), ("odd", (0, 1, 0))), False)

    def test_just_one_can_be(self):
        for web in SMALL_WEBS:
            owners = {plain_own(web, painting) for painting in plain_paintings(web)}
            for mating in plain_matings(web):
                told = owned(web, mating)
                self.assertEqual(told[0], "painting" if mating in owners else "odd")
                self.assertTrue(plain_shows_owned(web, mating, told), (web, mating, told))
                self.assertIs(shows_owned(web, mating, told), True)

    def test_an_odd_row_of_three_strands_and_there_and_back(self):
        # Three strands in a ring, each two of which meet once.
        web = (3, ((0, 4), (1, 5), (2, 8), (3, 9), (6, 10), (7, 11)))
        mating = (0, 0, 0)
        self.assertEqual(len(strands_of(web, mating)), 3)
        told = owned(web, mating)
        self.assertEqual((told[0], sorted(told[1])), ("odd", [0, 1, 2]))
        for row in ((0, 1, 2), (2, 1, 0), (1, 0, 1, 0, 2), (0, 1, 0, 1, 0, 1, 2), (0, 1, 2) * 3):
            self.assertIs(shows_owned(web, mating, ("odd", row)), True)
        for row in ((0, 1, 0), (0, 0, 0), (0, 1), (0, 1, 2, 0), (0, 1, 3), (0, 1, 2) * 2, (0,)):
            self.assertIs(shows_owned(web, mating, ("odd", row)), False)

    def test_shows_owned_of_all_short_rows_and_all_paintings(self):
        for web in SMALL_WEBS[:9] + SMALL_WEBS[11:26]:
            for mating in plain_matings(web)[::4]:
                many = len(plain_strands(web, mating))
                rows = [row for long in range(4) for row in product(range(min(many, 5)), repeat=long)]
                papers = [("odd", row) for row in rows] + [("painting", row) for row in plain_paintings(web)[:40]]
                for paper in papers:
                    expected = plain_shows_owned(web, mating, paper)
                    self.assertIs(shows_owned(web, mating, paper), expected, (web, mating, paper))

    def test_shows_owned_of_what_is_much_like_a_paper_and_of_anything(self):
        for web in (EMPTY, EIGHT, NESTED, LOOP_AND_ENDS, STAR, FOUR_WAYS, BOARD):
            for mating in plain_matings(web)[:27]:
                told = owned(web, mating)
                for thing in ANYTHING + spoiled(told):
                    expected = plain_shows_owned(web, mating, thing)
                    self.assertIs(shows_owned(web, mating, thing), expected, (web, mating, thing))

    def test_large_webs(self):
        for web in BIG_WEBS:
            for seed in range(6):
                mating = random_mating(seed, web)
                told = owned(web, mating)
                self.assertIs(shows_owned(web, mating, told), True)
                if told[0] == "painting":
                    self.assertEqual(plain_own(web, told[1]), mating)
                else:
                    self.assertIs(shows_owned(web, mating, ("odd", told[1][:-1])), False)
                    self.assertIs(shows_owned(web, mating, ("odd", told[1] * 3)), True)
        for web in (LONG, ROUND):
            painting = painting_at(web, 2 ** 59 + 12345)
            mating = own_mating(web, painting)
            told = owned(web, mating)
            self.assertEqual((told[0], plain_own(web, told[1])), ("painting", mating))
            self.assertIs(shows_owned(web, mating, ("painting", painting)), True)


if __name__ == "__main__":
    unittest.main()
