"""[9]: paintings counted, numbered and told; fronts; TooWide."""

import unittest
from itertools import combinations

from support import (
    ANYTHING, BOARD, EIGHT, EMPTY, FOUR_WAYS, LONG, LOOP_AND_ENDS, ROUND, SMALL_WEBS, STAR, alike, beside,
    is_strictly_rising, ladder, plain_across, plain_ends, plain_painted_ends, plain_paintings, plain_way, spoiled,
    web_of, whole_row,
)
from tiewheel.paintings.fronts import (
    MOST_STATES, MOST_TOLD, all_paintings, many_paintings, painting_at, painting_number, painting_or_fronts,
    shows_fronts,
)
from tiewheel.webs.errors import NoEnds, NoNumber, NoPainting, NoWeb, TooWide

# Ten posts, the k-th one joined by all four hands with the k-th but five: 6 ** 5 states at the cut 5.
WIDE = (10, tuple((hand, hand + 20) for hand in range(20)))
LESS_WIDE = (8, tuple((hand, hand + 16) for hand in range(16)))


def told_ends(web):
    """None, and each rising row of ends (of few ends)."""
    ends = plain_ends(web)
    yield None
    for many in range(len(ends) + 1):
        for row in combinations(ends, many):
            if many < 3 or len(ends) < 7:
                yield row


def plain_meant(web, ends):
    return tuple(row for row in plain_paintings(web) if ends in (None, plain_painted_ends(web, row)))


def plain_open(web, cut):
    return [at for at, way in enumerate(web[1]) if way[0] // 4 < cut and way[-1] // 4 >= cut]


def plain_leads(web, post, state, ends):
    """As the document says it."""
    across = plain_across(web)
    then = []
    for pair in combinations(range(4 * post, 4 * post + 4), 2):
        fit = True
        for hand in range(4 * post, 4 * post + 4):
            way = plain_way(web, hand)
            if way in plain_open(web, post):
                fit = fit and (hand in pair) == (way in state)
            if across[hand] is None and ends is not None:
                fit = fit and (hand in pair) == (hand in ends)
            if across[hand] is not None and across[hand] // 4 == post:
                fit = fit and (hand in pair) == (across[hand] in pair)
        if fit:
            begun = [plain_way(web, hand) for hand in pair if plain_way(web, hand) in plain_open(web, post + 1)]
            kept = [way for way in state if all(hand // 4 != post for hand in web[1][way])]
            then.append(tuple(sorted(set(begun + kept))))
    return then


def plain_shows_fronts(web, thing, ends):
    if not isinstance(thing, tuple) or len(thing) != 2:
        return False
    if thing[0] == "painting":
        return any(alike(thing[1], row) for row in plain_meant(web, ends))
    if thing[0] != "none" or not isinstance(thing[1], tuple) or len(thing[1]) != web[0] + 1:
        return False
    fronts = thing[1]
    for cut, front in enumerate(fronts):
        if not isinstance(front, tuple) or not all(whole_row(state) for state in front):
            return False
        if not is_strictly_rising(front) or not all(is_strictly_rising(state) for state in front):
            return False
        if not all(way in plain_open(web, cut) for state in front for way in state):
            return False
    if () not in fronts[0] or fronts[-1]:
        return False
    return all(
        then in fronts[post + 1]
        for post in range(web[0]) for state in fronts[post] for then in plain_leads(web, post, state, ends)
    )


class TestNumbers(unittest.TestCase):
    def test_constants(self):
        self.assertEqual((MOST_STATES, MOST_TOLD), (4000, 400))

    def test_against_a_plain_listing(self):
        for web in SMALL_WEBS:
            for ends in told_ends(web):
                rows = plain_meant(web, ends)
                self.assertEqual(many_paintings(web, ends=ends), len(rows))
                if len(rows) <= 400:
                    self.assertEqual(all_paintings(web, ends=ends), rows)
                for number in sorted({*range(min(len(rows), 12)), *range(max(0, len(rows) - 4), len(rows))}):
                    self.assertEqual(painting_at(web, number, ends=ends), rows[number])
                    self.assertEqual(painting_number(web, rows[number], ends=ends), number)
                for number in (len(rows), len(rows) + 1, 10 ** 39):
                    with self.assertRaises(NoNumber) as caught:
                        painting_at(web, number, ends=ends)
                    self.assertIs(caught.exception.number, number)

    def test_left_out_ends_are_none(self):
        for web in SMALL_WEBS[:12]:
            self.assertEqual(many_paintings(web), many_paintings(web, ends=None))
            self.assertEqual(painting_at(web, 0), plain_paintings(web)[0])
            self.assertEqual(painting_number(web, plain_paintings(web)[-1]), len(plain_paintings(web)) - 1)
            self.assertEqual(painting_or_fronts(web), painting_or_fronts(web, ends=None))
            self.assertIs(shows_fronts(web, ("painting", plain_paintings(web)[-1])), True)
        self.assertEqual(all_paintings(STAR), ((0, 1), (0, 2), (0, 3), (1, 2), (1, 3), (2, 3)))

    def test_by_hand(self):
        self.assertEqual(all_paintings(EMPTY), ((),))
        self.assertEqual(all_paintings(EMPTY, ends=()), ((),))
        self.assertEqual(all_paintings(EIGHT), ((0,), (1,)))
        self.assertEqual(all_paintings(LOOP_AND_ENDS, ends=()), ((0,),))
        self.assertEqual(all_paintings(LOOP_AND_ENDS, ends=(1, 3)), ((1, 2),))
        self.assertEqual(all_paintings(LOOP_AND_ENDS, ends=(1,)), ())
        self.assertEqual(many_paintings(FOUR_WAYS), 6)

    def test_great_numbers(self):
        self.assertEqual(many_paintings(LONG), 2 + 2 ** 61)
        self.assertEqual(many_paintings(LONG, ends=(0, 238)), 2 ** 59)
        self.assertEqual(many_paintings(LONG, ends=(0, 1)), 0)
        self.assertEqual(many_paintings(LONG, ends=(0, 1, 238, 239)), 1)
        self.assertEqual(many_paintings(LONG, ends=(0,)), 0)
        self.assertEqual(many_paintings(ROUND), 2 + 2 ** 60)
        self.assertEqual(many_paintings((60, tuple((hand,) for hand in range(240)))), 6 ** 60)
        for web, ends in ((LONG, None), (LONG, (1, 239)), (ROUND, None)):
            many = many_paintings(web, ends=ends)
            ahead = ()
            for number in (0, 1, 2, 3, many // 3, many // 2, many // 2 + 1, many - 2, many - 1):
                painting = painting_at(web, number, ends=ends)
                self.assertEqual(painting_number(web, painting, ends=ends), number)
                self.assertLess(ahead, painting)
                ahead = painting
            for number in (many, many + 1):
                with self.assertRaises(NoNumber):
                    painting_at(web, number, ends=ends)

    def test_no_numbers(self):
        for number in (-1, True, False, None, "0", (), [0], {}, -10 ** 39):
            for web in (EIGHT, WIDE):
                with self.assertRaises(NoNumber) as caught:
                    painting_at(web, number)
                self.assertIs(caught.exception.number, number)

    def test_paintings_that_are_not_meant(self):
        for painting in ((0, 1), (), (2,), [0], (False,), None):
            with self.assertRaises(NoPainting):
                painting_number(EIGHT, painting)
        self.assertEqual(painting_number(STAR, (0, 1), ends=(0, 1)), 0)
        for ends in ((0, 2), (), (0,), (0, 1, 2), (0, 1, 2, 3)):
            with self.assertRaises(NoPainting):
                painting_number(STAR, (0, 1), ends=ends)

    def test_four_hundred_are_told(self):
        ten = ladder(2)
        four_hundred = beside(ten, ten, EIGHT, EIGHT)
        told = all_paintings(four_hundred)
        self.assertEqual(len(told), 400)
        self.assertEqual(told, plain_paintings(four_hundred))
        for web in (beside(four_hundred, EIGHT), beside(ladder(4), STAR, EIGHT), LONG):
            self.assertGreater(many_paintings(web), 400)
            with self.assertRaises(TooWide) as caught:
                all_paintings(web)
            self.assertEqual(caught.exception.most, 400)
        self.assertEqual(len(all_paintings(LONG, ends=(0, 1, 238, 239))), 1)
        self.assertEqual(all_paintings(LONG, ends=(0,)), ())


class TestTooWide(unittest.TestCase):
    def refused(self, asked, *things, **named):
        with self.assertRaises(TooWide) as caught:
            asked(*things, **named)
        self.assertEqual(caught.exception.most, 4000)

    def test_more_than_four_thousand_states(self):
        self.assertEqual(many_paintings(LESS_WIDE), 6 ** 4)
        painting = (0, 1, 4, 5, 8, 9, 12, 13, 16, 17)
        self.refused(many_paintings, WIDE)
        self.refused(painting_at, WIDE, 0)
        self.refused(painting_at, WIDE, 10 ** 39)
        self.refused(painting_number, WIDE, painting)
        self.refused(all_paintings, WIDE)
        self.refused(painting_or_fronts, WIDE)
        self.refused(painting_or_fronts, WIDE, ends=())
        self.assertIs(shows_fronts(WIDE, ("painting", painting)), True)
        self.assertIs(shows_fronts(WIDE, ("painting", painting[:-1])), False)

    def test_refused_last_of_all(self):
        with self.assertRaises(NoEnds):
            many_paintings(WIDE, ends=(0,))
        with self.assertRaises(NoNumber):
            painting_at(WIDE, -1)
        with self.assertRaises(NoPainting):
            painting_number(WIDE, (0,))

    def web_with_states(self, five, two):
        """A web, told ends, where at the widest cut 5 ** five * 2 ** two states come.

        Five: two posts, joined once, with a painted end each and two hands on. Two: a post with a
        painted and a bare end, and two hands on. Posts above take four of these hands each.
        """
        ways, ends, onward, post = [], [], [], 0
        for _ in range(five):
            first = 4 * post
            ways += [(first,), (first + 4,), (first + 1, first + 5)]
            ends += [first, first + 4]
            onward += [first + 2, first + 3, first + 6, first + 7]
            post += 2
        for _ in range(two):
            ways += [(4 * post,), (4 * post + 1,)]
            ends.append(4 * post)
            onward += [4 * post + 2, 4 * post + 3]
            post += 1
        above = list(range(4 * post, 4 * post + len(onward)))
        ways += list(zip(onward, above))
        rest = range(above[-1] + 1, 4 * (above[-1] // 4) + 4)
        ways += [(hand,) for hand in rest]
        return web_of(above[-1] // 4 + 1, ways), tuple(ends + list(rest)[:1])

    def test_just_four_thousand_states(self):
        for five, two in ((3, 5), (5, 0), (0, 11)):
            web, ends = self.web_with_states(five, two)
            many = many_paintings(web, ends=ends)
            told = painting_or_fronts(web, ends=ends)
            self.assertEqual(told[0], "painting" if many else "none")
            self.assertIs(shows_fronts(web, told, ends=ends), True)
        for five, two in ((3, 6), (0, 12), (5, 1)):
            web, ends = self.web_with_states(five, two)
            self.refused(many_paintings, web, ends=ends)
            self.refused(painting_or_fronts, web, ends=ends)

    def test_states_that_lead_nowhere_count(self):
        # The last post has three painted ends: there is no painting, but the cut is as wide.
        web = beside(WIDE, STAR)
        self.refused(many_paintings, web, ends=(40, 41, 42))
        self.refused(painting_or_fronts, web, ends=(40, 41, 42))
        # Where no state comes as far as the wide cut, it is not wide.
        web = beside(STAR, WIDE)
        self.assertEqual(many_paintings(web, ends=(0, 1, 2)), 0)
        told = painting_or_fronts(web, ends=(0, 1, 2))
        self.assertEqual(told, ("none", (((),),) + ((),) * 11))
        self.assertIs(shows_fronts(web, told, ends=(0, 1, 2)), True)


class TestFronts(unittest.TestCase):
    def test_just_one_can_be(self):
        kinds = set()
        for web in SMALL_WEBS:
            for ends in told_ends(web):
                told = painting_or_fronts(web, ends=ends)
                kinds.add(told[0])
                self.assertEqual(told[0], "painting" if plain_meant(web, ends) else "none")
                self.assertTrue(plain_shows_fronts(web, told, ends), (web, ends, told))
                self.assertIs(shows_fronts(web, told, ends=ends), True)
        self.assertEqual(kinds, {"painting", "none"})

    def test_fronts_by_hand(self):
        told = painting_or_fronts(LOOP_AND_ENDS, ends=(1,))
        self.assertEqual(told, ("none", (((),), ())))
        self.assertEqual(painting_or_fronts(EMPTY), ("painting", ()))
        self.assertIs(shows_fronts(EMPTY, ("none", ((),))), False)
        self.assertIs(shows_fronts(EMPTY, ("none", (((),),))), False)
        self.assertIs(shows_fronts(LOOP_AND_ENDS, told, ends=(1,)), True)
        self.assertIs(shows_fronts(LOOP_AND_ENDS, told, ends=(1, 3)), False)
        self.assertIs(shows_fronts(LOOP_AND_ENDS, told), False)

    def test_further_states_led_on(self):
        # Two posts joined by four ways would have six states; told ends leave but few of them.
        web = web_of(2, [(0,), (1, 4), (2, 5), (3, 6), (7,)])
        right = ("none", (((),), ((1,), (2,), (3,)), ()))
        self.assertEqual(painting_or_fronts(web, ends=(0,)), right)
        self.assertEqual(plain_leads(web, 1, (1,), (0,)), [])
        further = ("none", (((),), ((), (1,), (2,), (3,)), ()))
        self.assertIs(shows_fronts(web, further, ends=(0,)), True)
        further = ("none", (((),), ((), (1,), (1, 2, 3), (2,), (3,)), ()))
        self.assertIs(shows_fronts(web, further, ends=(0,)), True)
        # (1, 2) goes on to the end, where () would have to be told.
        further = ("none", (((),), ((1,), (1, 2), (2,), (3,)), ()))
        self.assertIs(shows_fronts(web, further, ends=(0,)), False)
        further = ("none", (((),), ((1,), (1, 2), (2,), (3,)), ((),)))
        self.assertIs(shows_fronts(web, further, ends=(0,)), False)
        for front in (((1,), (2,)), ((1,), (3,), (2,)), ((1,), (2,), (3,), (3,)), ((1,), (2,), (2, 1), (3,)), ()):
            self.assertIs(shows_fronts(web, ("none", (((),), front, ())), ends=(0,)), False)
        # 0 and 4 are ends, not open at the cut.
        self.assertIs(shows_fronts(web, ("none", (((),), ((0,), (1,), (2,), (3,)), ())), ends=(0,)), False)
        self.assertIs(shows_fronts(web, ("none", (((), (1,)), ((1,), (2,), (3,)), ())), ends=(0,)), False)

    def test_what_is_much_like_fronts(self):
        for web in (EMPTY, EIGHT, LOOP_AND_ENDS, STAR, ladder(2), SMALL_WEBS[13], SMALL_WEBS[16], SMALL_WEBS[22]):
            for ends in list(told_ends(web))[:9]:
                told = painting_or_fronts(web, ends=ends)
                for thing in spoiled(told):
                    expected = plain_shows_fronts(web, thing, ends)
                    self.assertIs(shows_fronts(web, thing, ends=ends), expected, (web, ends, thing))

    def test_of_anything(self):
        for web, ends in ((EMPTY, None), (EIGHT, ()), (LOOP_AND_ENDS, (1,)), (BOARD, (0,))):
            for thing in ANYTHING:
                expected = plain_shows_fronts(web, thing, ends)
                self.assertIs(shows_fronts(web, thing, ends=ends), expected, thing)

    def test_fronts_of_sixty_posts(self):
        told = painting_or_fronts(LONG, ends=(0,))
        self.assertEqual((told[0], len(told[1])), ("none", 61))
        self.assertEqual(told[1][:2], (((),), ((2,), (3,))))
        self.assertIs(shows_fronts(LONG, told, ends=(0,)), True)
        self.assertIs(shows_fronts(LONG, told, ends=(0, 238)), False)
        self.assertIs(shows_fronts(LONG, told), False)
        for cut in range(61):
            less = told[1][:cut] + (told[1][cut][1:],) + told[1][cut + 1:]
            self.assertIs(shows_fronts(LONG, ("none", less), ends=(0,)), cut == 60)
        told = painting_or_fronts(ROUND)
        self.assertIs(shows_fronts(ROUND, told), True)
        self.assertIs(shows_fronts(ROUND, ("painting", told[1][1:])), False)

    def test_fronts_of_more_states_than_may_come(self):
        # As WIDE, but for the last post, of which no two hands can be painted: its own ends take three.
        web = beside(WIDE, STAR)
        front = ((),)
        fronts = [front]
        for post in range(5):
            pairs = list(combinations(range(4 * post, 4 * post + 4), 2))
            front = tuple(sorted(state + pair for state in front for pair in pairs))
            fronts.append(front)
        self.assertEqual(len(fronts[5]), 7776)
        for post in range(5):
            front = tuple(sorted({tuple(way for way in state if way // 4 != post) for state in front}))
            fronts.append(front)
        told = ("none", tuple(fronts) + ((),))
        self.assertIs(shows_fronts(web, told, ends=(40, 41, 42)), True)
        self.assertIs(shows_fronts(web, told, ends=(40, 41)), False)
        less = ("none", told[1][:5] + (told[1][5][1:],) + told[1][6:])
        self.assertIs(shows_fronts(web, less, ends=(40, 41, 42)), False)


class TestRefusals(unittest.TestCase):
    ASKED = (
        (many_paintings, ()), (painting_at, (0,)), (painting_number, ((0, 1),)), (all_paintings, ()),
        (painting_or_fronts, ()), (shows_fronts, (None,)),
    )

    def test_ends_that_are_none(self):
        right = [None] + [row for many in range(5) for row in combinations(range(4), many)]
        wrong = [thing for thing in ANYTHING + spoiled((0, 2)) + spoiled((0, 1, 2, 3))
                 if not any(alike(thing, row) for row in right)]
        self.assertIn((2, 0), wrong)
        for asked, more in self.ASKED:
            for thing in wrong:
                with self.assertRaises(NoEnds, msg=repr((asked, thing))):
                    asked(STAR, *more, ends=thing)
            for thing in ((0,), (2,), (0, 2), (1, 2), (0, 1, 3)):
                with self.assertRaises(NoEnds):
                    asked(LOOP_AND_ENDS, *more, ends=thing)

    def test_order(self):
        for asked, more in self.ASKED:
            for thing in ANYTHING:
                with self.assertRaises(NoWeb):
                    asked(thing, *more, ends="no ends")
        for wrong in (-1, "0", None):
            with self.assertRaises(NoEnds):
                painting_at(STAR, wrong, ends=(1, 0))
            with self.assertRaises(NoEnds):
                painting_number(STAR, wrong, ends=(1, 0))
            with self.assertRaises(NoEnds):
                painting_number(WIDE, wrong, ends=(1,))


if __name__ == "__main__":
    unittest.main()
