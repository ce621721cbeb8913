"""[3], [5], [7]: webs, matings, paintings told from anything near them, small and of sixty posts."""

import unittest
from itertools import product
from random import Random

from support import (
    ANYTHING, BIG_WEBS, BOARD, EIGHT, EMPTY, FOUR_WAYS, LONG, LOOP_AND_ENDS, NESTED, ROUND, SMALL_WEBS, STAR, ladder,
    plain_across, plain_is_mating, plain_is_painting, plain_is_web, plain_way, random_mating, spoiled, web_of,
)
from tiewheel.matings.matings import corners_of, is_mating, mate, third
from tiewheel.paintings.fronts import painting_at
from tiewheel.paintings.paintings import bared, is_painting, own_mating
from tiewheel.webs.errors import NoMating, NoPainting, NoWeb
from tiewheel.webs.webs import across, ends_of, is_web, way_of, ways_at

FAR = (60, tuple((hand, hand + 120) for hand in range(120)))
LOOPS = (60, tuple((hand, hand + 1) for hand in range(0, 240, 2)))
ALL_ENDS = (60, tuple((hand,) for hand in range(240)))
FIRST_AHEAD = web_of(60, [(0,), (1,), (120,), (121,)] + [(hand, hand + 120) for hand in range(2, 120)])
CHANCE_AHEAD = web_of(60, [(0,), (239,)] + list(zip(range(1, 120), Random(2).sample(range(120, 239), 119))))
SIXTY = [FAR, LOOPS, ALL_ENDS, LONG, ROUND]
OTHER_KINDS = [None, "", "0", (), [], {}, (0,), [0], {0: 0}, True, False, -1, 10 ** 39, -10 ** 39, 10 ** 40 - 1]


def replaced(row, at, *parts):
    return row[:at] + parts + row[at + 1:]


def near_ways(ways, at):
    """Rows of ways that are unlike these about one of them."""
    way = ways[at]
    told = [list(way), way[::-1], (), way + way, way + (way[0] + 1,), way + (0,), (way,), tuple(map(str, way)), None]
    told += [way[0], {way[0]: way[-1]}, way[:1], way[1:], (way[0], way[0]), (way[-1], way[0]), way + (None,)]
    for place in range(len(way)):
        told += [replaced(way, place, part) for part in OTHER_KINDS]
        told += [replaced(way, place, way[place] + more) for more in (-1, 1, 4, 240, -240, 10 ** 39)]
        told += [replaced(way, place, bool(way[place]))]
    rows = [replaced(ways, at, other) for other in told]
    rows += [replaced(ways, at, way, way), replaced(ways, at), ways[:at] + ways[at + 1:] + (way,), (way,) + ways]
    rows += [ways[:at] + tuple((hand,) for hand in way) + ways[at + 1:]]
    return rows


def near_webs(web, places):
    many, ways = web
    things = [list(web), (many, list(ways)), (many, dict(enumerate(ways))), (ways, many), web + (0,), (many,), [many, ways]]
    things += [(other, ways) for other in OTHER_KINDS + [many - 1, many + 1, 61, -many, bool(many), str(many)]]
    things += [(many, ways[::-1]), (many, ways[:-1]), (many, ways[1:]), (many, ways * 2), (many, ways + (ways[-1],))]
    things += [(many, ways + ((4 * many,),)), (many, ways + ((4 * many, 4 * many + 1),)), (many, ways + ((),))]
    things += [(many, ways + (other,)) for other in OTHER_KINDS]
    for at in places:
        things += [(many, row) for row in near_ways(ways, at)]
        things += [(many, ways[:at] + (ways[at + 1], ways[at]) + ways[at + 2:])] if at + 1 < len(ways) else []
    return things


class TestNearWebs(unittest.TestCase):
    def test_anything(self):
        for thing in ANYTHING + [row for thing in ANYTHING if isinstance(thing, tuple) for row in spoiled(thing)]:
            self.assertIs(is_web(thing), plain_is_web(thing), thing)

    def test_near_small_webs(self):
        right = wrong = 0
        for web in [STAR, EIGHT, NESTED, LOOP_AND_ENDS, BOARD, FOUR_WAYS, ladder(3)] + SMALL_WEBS[12:30]:
            if web == EMPTY:
                continue
            for thing in near_webs(web, range(len(web[1]))):
                expected = plain_is_web(thing)
                self.assertIs(is_web(thing), expected, thing)
                right, wrong = right + expected, wrong + (not expected)
        self.assertGreater(right, 20)
        self.assertGreater(wrong, 1000)

    def test_near_webs_of_sixty_posts(self):
        for web in SIXTY:
            self.assertIs(is_web(web), True)
            last = len(web[1]) - 1
            for thing in near_webs(web, (0, 1, 2, last // 2, last - 1, last)):
                self.assertIs(is_web(thing), plain_is_web(thing), thing)

    def test_each_fault_by_hand(self):
        wrong = [
            (1, ((1, 0), (2, 3))), (1, ((0, 1), (0, 1), (2, 3))), (1, ((2, 3), (0, 1))), (1, ((0, 1), (1, 2), (3,))),
            (1, ((), (0, 1), (2, 3))), (1, ((0, 1, 2), (3,))), (1, ([0, 1], (2, 3))), [1, ((0, 1), (2, 3))],
            (1, [(0, 1), (2, 3)]), (1, ((False, 1), (2, 3))), (1, ((0, True), (2, 3))), (True, ((0, 1), (2, 3))),
            (1, ((False,), (1,), (2,), (3,))), (1, ((0,), (True,), (2,), (3,))), (1, ((0,), (True, 2), (3,))),
            (1, ((0, 4), (1,), (2,), (3,))), (1, ((0,), (1,), (2,), (3,), (4,))), (1, ((-1, 0), (1,), (2,), (3,))),
            (1, ((0, 10 ** 39), (1,), (2,), (3,))), (1, ((0, -10 ** 39), (1,), (2,), (3,))), (1, ((0, "1"), (2, 3))),
            (1, (("0", 1), (2, 3))), (1, ((0, None), (2, 3))), (1, ((0, (1,)), (2, 3))), (1, ((0, [1]), (2, 3))),
            (1, ((0, {}), (2, 3))), (1, ((0,), (1,), (2,))), (1, ((0, 2), (3,))), (1, ((0, 0), (1,), (2,), (3,))),
            (0, ((),)), (0, ((0,),)), (False, ()), (1, ()), (-1, ()), (10 ** 39, ()), (1, "0123"), (1, {}), ((), 1),
        ]
        for thing in wrong:
            self.assertIs(is_web(thing), False, thing)
            self.assertFalse(plain_is_web(thing), thing)

    def test_hands_in_two_rows_of_sixty_posts(self):
        ways = FAR[1]
        for at in (0, 7, 119):
            for hand in (0, 1, 119, 120, 121, 238, 239):
                for thing in ((60, replaced(ways, at, (at, hand))), (60, replaced(ways, at, (hand, at + 120)))):
                    self.assertIs(is_web(thing), plain_is_web(thing), thing)

    def test_a_chance_way_of_any_web(self):
        chance = Random(3)
        for web in [web for web in SMALL_WEBS if web[0] > 0] + BIG_WEBS:
            many, ways = web
            for _ in range(60):
                at = chance.randrange(len(ways))
                row = tuple(chance.randrange(-1, 4 * many + 1) for _ in range(chance.randint(0, 3)))
                thing = (many, replaced(ways, at, row))
                self.assertIs(is_web(thing), plain_is_web(thing), thing)
                thing = web_of(many, ways[:at] + ways[at + 1:] + (row,))
                self.assertIs(is_web(thing), plain_is_web(thing), thing)

    def test_all_rows_of_ways_of_one_post(self):
        hands = range(-1, 5)
        ways = [(hand,) for hand in hands] + [(one, other) for one in hands for other in hands]
        right = 0
        for row in [row for many in (1, 2, 3) for row in product(ways, repeat=many)]:
            expected = plain_is_web((1, row))
            self.assertIs(is_web((1, row)), expected, row)
            right += expected
        # Three rows of two pairs, and six of one pair with two ends.
        self.assertEqual(right, 9)
        for row in product([(hand,) for hand in hands], repeat=4):
            self.assertIs(is_web((1, row)), row == ((0,), (1,), (2,), (3,)), row)

    def test_truths_and_hands_of_one_post(self):
        hands = (0, 1, 2, 3, False, True)
        ways = [(hand,) for hand in hands] + [(one, other) for one in hands for other in hands]
        for row in product(ways, repeat=2):
            self.assertIs(is_web((1, row)), plain_is_web((1, row)), row)
        for row in product(hands, repeat=4):
            for thing in ((1, (row[:2], row[2:])), (1, (row[:1], row[1:3], row[3:])), (1, tuple(zip(row)))):
                self.assertIs(is_web(thing), plain_is_web(thing), thing)

    def test_a_hand_twice_and_another_not_at_all(self):
        for web in [FIRST_AHEAD, CHANCE_AHEAD] + SIXTY + BIG_WEBS[3:6]:
            many, ways = web
            for at in range(0, len(ways), 3):
                for place in range(len(ways[at])):
                    for hand in range(0, 4 * many, 7):
                        thing = (many, replaced(ways, at, replaced(ways[at], place, hand)))
                        self.assertIs(is_web(thing), plain_is_web(thing), thing)

    def test_two_hands_in_one_another_s_place(self):
        right = wrong = 0
        for web in [FIRST_AHEAD, CHANCE_AHEAD, FAR, LONG, ROUND]:
            many, ways = web
            chance = Random(8)
            for _ in range(300):
                one, other = sorted(chance.sample(range(len(ways)), 2))
                this, that = chance.randrange(len(ways[one])), chance.randrange(len(ways[other]))
                row = replaced(ways, one, replaced(ways[one], this, ways[other][that]))
                row = replaced(row, other, replaced(ways[other], that, ways[one][this]))
                for thing in ((many, row), web_of(many, row), (many, tuple(sorted(row)))):
                    expected = plain_is_web(thing)
                    self.assertIs(is_web(thing), expected, thing)
                    right, wrong = right + expected, wrong + (not expected)
        self.assertGreater(min(right, wrong), 500)

    def test_webs_whose_first_hands_are_all_ahead(self):
        for web in (FIRST_AHEAD, CHANCE_AHEAD, FAR):
            self.assertIs(is_web(web), True)
            table = plain_across(web)
            for hand in range(240):
                self.assertEqual(across(web, hand), table[hand])
                self.assertEqual(way_of(web, hand), plain_way(web, hand))
            for post in range(60):
                self.assertEqual(ways_at(web, post), tuple(plain_way(web, 4 * post + side) for side in range(4)))
            self.assertEqual(ends_of(web), tuple(hand for hand in range(240) if table[hand] is None))

    def test_at_most_sixty_posts(self):
        self.assertIs(is_web(ladder(61)), False)
        self.assertIs(is_web((61, tuple((hand,) for hand in range(244)))), False)
        self.assertIs(is_web((61, ALL_ENDS[1])), False)

    def test_what_is_told_after_a_refusal_is_told_anew(self):
        # Nothing is kept of what was asked ahead: not of a web, not of what is none.
        for _ in range(3):
            self.assertEqual(across(FAR, 200), 80)
            with self.assertRaises(NoWeb):
                across((60, FAR[1][:-1]), 200)
            self.assertEqual(across(LOOPS, 200), 201)
            self.assertEqual(ends_of(ALL_ENDS), tuple(range(240)))


class TestNearMatings(unittest.TestCase):
    def near(self, web):
        mating = random_mating(5, web)
        things = [mating, list(mating), mating[:-1], mating + (0,), mating + (None,), (mating,), str(mating), ()]
        for at in [at for at in (0, 1, 2, len(mating) // 2, len(mating) - 1) if 0 <= at < len(mating)]:
            things += [replaced(mating, at, part) for part in OTHER_KINDS + [0, 1, 2, 3, 240]]
            things += [replaced(mating, at), replaced(mating, at, mating[at], mating[at])]
        return things

    def test_near_matings(self):
        for web in SMALL_WEBS + BIG_WEBS + SIXTY:
            for thing in self.near(web) + ANYTHING:
                expected = plain_is_mating(web, thing)
                self.assertIs(is_mating(web, thing), expected, thing)
                if not expected:
                    with self.assertRaises(NoMating):
                        corners_of(web, thing)
                    with self.assertRaises(NoMating):
                        mate(web, thing, None)
                    with self.assertRaises(NoMating):
                        third(web, (0,) * web[0], thing)


class TestNearPaintings(unittest.TestCase):
    def near(self, web, painting):
        many = len(web[1])
        things = [painting, list(painting), painting[::-1], painting[:-1], painting[1:], painting + (many,), (painting,)]
        things += [painting + (None,), dict(enumerate(painting)), str(painting), tuple(range(many)), ()]
        bare = [way for way in range(many) if way not in painting]
        for at in [at for at in (0, 1, 2, len(painting) // 2, len(painting) - 1) if 0 <= at < len(painting)]:
            things += [replaced(painting, at, part) for part in OTHER_KINDS + [many, 0, 1, bool(painting[at])]]
            things += [replaced(painting, at), replaced(painting, at, painting[at], painting[at])]
            things += [tuple(sorted(replaced(painting, at, way))) for way in bare[:6]]
            things += [tuple(sorted(painting + (way,))) for way in bare[:3]]
        return things

    def test_near_paintings(self):
        right = wrong = 0
        for web in SMALL_WEBS + [LONG, ROUND, LOOPS]:
            for number in (0, 1, 2 ** 20 + 5) if web in (LONG, ROUND) else (0,):
                painting = tuple(range(0, 120, 2)) if web == LOOPS else painting_at(web, number)
                for thing in self.near(web, painting) + ANYTHING:
                    expected = plain_is_painting(web, thing)
                    self.assertIs(is_painting(web, thing), expected, (web, thing))
                    right, wrong = right + expected, wrong + (not expected)
                    if not expected:
                        for asked in (bared, own_mating):
                            with self.assertRaises(NoPainting):
                                asked(web, thing)
        self.assertGreater(right, 60)
        self.assertGreater(wrong, 3000)


if __name__ == "__main__":
    unittest.main()
