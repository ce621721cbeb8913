"""[32], [33] as far as tables: accounts, tables, how many have which ties, tables gone over."""

import unittest
from random import Random
from unittest import mock

from plain_counts import (
    plain_account, plain_are_ties, plain_is_table, plain_table, plain_table_over, plain_widths,
)
from plain_deeds import chance_painting, large_samples, middle_samples, small_samples
from plain_shapes import plain_is_by_turns, plain_made_matings, plain_made_painting, plain_shape, shape_wheels
from support import (
    ANYTHING, BOARD, EIGHT, EMPTY, LONG, LOOP_AND_ENDS, ROUND, SMALL_WEBS, STAR, beside, board, plain_ends, plain_matings,
    plain_painted_ends, plain_paintings, random_mating, random_web, spoiled, web_of,
)
from tiewheel.counts import tables
from tiewheel.counts.tables import MOST_HALVES, account_of, many_with, table_of, table_over
from tiewheel.webs.errors import NoEnds, NoMating, NoPainting, NoWeb, TooWide

WEBS = SMALL_WEBS + [board(2, 3), board(1, 4)] + [random_web(seed, 5, 8) for seed in range(500, 510)]


def told_ends(web):
    """None, ends that paintings have, and some that none has."""
    rows = [plain_painted_ends(web, row) for row in plain_paintings(web)]
    return [None, (), plain_ends(web), plain_ends(web)[:1]] + sorted(set(rows))[:4]


class TestAccounts(unittest.TestCase):
    def test_by_hand(self):
        self.assertEqual(account_of(STAR, (0, 1)), (((0, 1),), ((2, 3),), 0))
        self.assertEqual(account_of(EIGHT, (0,)), ((), (), 2))
        self.assertEqual(account_of(LOOP_AND_ENDS, (0,)), ((), ((1, 3),), 1))
        self.assertEqual(account_of(EMPTY, ()), ((), (), 0))

    def test_of_any_painting(self):
        for web, painting, _ in list(small_samples(3, 1)) + list(middle_samples(2)) + list(large_samples()):
            self.assertEqual(account_of(web, painting), plain_account(web, painting))

    def test_refusals(self):
        with self.assertRaises(NoWeb):
            account_of(None, None)
        for thing in ANYTHING:
            with self.assertRaises(NoPainting):
                account_of(STAR, thing)


class TestTables(unittest.TestCase):
    def test_by_hand(self):
        self.assertEqual(repr(MOST_HALVES), "4000")
        self.assertEqual(table_of(EMPTY), ((((), (), 0), 1),))
        self.assertEqual(table_of(EIGHT), ((((), (), 2), 2),))
        self.assertEqual(table_of(STAR, ends=(0, 3)), (((((0, 3),), ((1, 2),), 0), 1),))
        self.assertEqual(table_of(STAR, ends=(0,)), ())

    def test_against_accounts_of_all_paintings(self):
        rings = set()
        for web in WEBS:
            for ends in told_ends(web):
                told = table_of(web, ends=ends)
                self.assertEqual(told, plain_table(web, ends))
                self.assertEqual(sum(many for _, many in told), len([
                    row for row in plain_paintings(web) if ends is None or plain_painted_ends(web, row) == ends
                ]))
                rings |= {account[2] for account, _ in told}
            self.assertEqual(table_of(web), plain_table(web))
        self.assertTrue({0, 1, 2, 3} <= rings, rings)

    def test_few_accounts_of_many_paintings(self):
        web = beside(*[EIGHT] * 15)
        self.assertEqual(table_of(web), ((((), (), 30), 2 ** 15),))
        self.assertEqual(many_with(web, (), ()), ((30, 2 ** 15),))
        web = beside(*[EIGHT] * 60)
        self.assertEqual(table_of(web), ((((), (), 120), 2 ** 60),))

    def test_sixty_posts_in_one_chain(self):
        for web in (LONG, ROUND):
            table = table_of(web)
            self.assertLess(len(table), 100)
            for seed in range(4):
                account = plain_account(web, chance_painting(web, seed))
                self.assertIn(account, [row for row, _ in table])
                told = many_with(web, *account[:2])
                self.assertIn(account[2], [rings for rings, _ in told])
        # Of as short a chain and as short a necklace as can be looked at whole.
        for many in (4, 5):
            ways = [(4 * at + 2, 4 * at + 4) for at in range(many - 1)] + [(4 * at + 3, 4 * at + 5) for at in range(many - 1)]
            web = web_of(many, ways + [(0,), (1,), (4 * many - 2,), (4 * many - 1,)])
            self.assertEqual(table_of(web), plain_table(web))

    def test_too_wide(self):
        for ask in (table_of, lambda web: many_with(web, *plain_account(web, chance_painting(web, 1))[:2])):
            with self.assertRaises(TooWide) as caught:
                ask(board(6, 10))
            self.assertEqual(repr(caught.exception.most), "4000")
        with self.assertRaises(NoEnds):
            table_of(board(6, 10), ends=(0, 0))

    def test_too_wide_by_halves_at_one_cut(self):
        met = set()
        for web in [board(3, 3), board(2, 4), board(2, 5), board(3, 4)] + [random_web(seed, 9, 14) for seed in range(30)]:
            if web[0] > 10:
                continue
            wide = max(plain_widths(web), default=1) > 4000 if web[0] <= 7 or web[0] == 9 else None
            try:
                told = table_of(web)
            except TooWide:
                self.assertIn(wide, (True, None))
                met.add("wide")
            else:
                self.assertIn(wide, (False, None))
                met.add("told")
                if web[0] <= 6:
                    self.assertEqual(told, plain_table(web))
        self.assertEqual(met, {"wide", "told"})

    def test_wide_though_no_painting_comes(self):
        # Many posts with four ends each, then ends told that the last post can't have.
        web = beside(*[STAR] * 6)
        ends = tuple(4 * post + side for post in range(5) for side in (0, 1))
        self.assertEqual(table_of(web, ends=ends), ())
        self.assertEqual(max(plain_widths(beside(*[STAR] * 4))), 6 ** 4)
        for many, wide in ((4, False), (5, True)):
            # Six choices at each post, and behind them a post of which an odd number is painted.
            web = beside(*[STAR] * many, LOOP_AND_ENDS)
            if wide:
                with self.assertRaises(TooWide):
                    table_of(web)
            else:
                self.assertEqual(len(table_of(web)), 2 * 6 ** 4)
            ends = tuple(range(0, 4 * many, 4)) + (4 * many + 1,)
            self.assertEqual(table_of(web, ends=ends), ())

    def test_halves_just_as_many(self):
        # 1296 halves behind four posts; behind a fifth of two or three choices 2592 or 3888, of four 5184.
        four = beside(*[STAR] * 4)
        for more, choices in ((LOOP_AND_ENDS, 2), (EIGHT, 1)):
            self.assertEqual(len(table_of(beside(four, more))), 1296 * choices)
        two = (2, ((0, 4), (1,), (2,), (3,), (5,), (6,), (7,)))
        self.assertEqual(max(plain_widths(two)), len(plain_table(two)))
        self.assertEqual(len(plain_table(two)), 18)
        self.assertEqual(len(table_of(beside(two, *[STAR] * 3))), 18 * 216)
        with self.assertRaises(TooWide):
            table_of(beside(two, two, *[STAR] * 2))

    def test_just_as_many_halves_as_may_come(self):
        for web in [web for web in WEBS if web[0] > 0]:
            for ends in told_ends(web)[::2]:
                wide = max(plain_widths(web, ends))
                with mock.patch.object(tables, "MOST_HALVES", wide):
                    self.assertEqual(table_of(web, ends=ends), plain_table(web, ends))
                with mock.patch.object(tables, "MOST_HALVES", wide - 1):
                    with self.assertRaises(TooWide):
                        table_of(web, ends=ends)

    def test_no_ends(self):
        for thing in ANYTHING + spoiled((0, 3)) + [(3, 0), (0, 0), (4,), (0, 4)]:
            ok = thing is None or (isinstance(thing, tuple) and all(type(end) is int and 0 <= end < 4 for end in thing)
                                   and list(thing) == sorted(set(thing)))
            if ok:
                self.assertEqual(table_of(STAR, ends=thing), plain_table(STAR, thing))
                self.assertEqual(many_with(STAR, ((0, 3),), ((1, 2),), ends=thing), ((0, 1),) if thing in (None, (0, 3)) else ())
            else:
                for ask in (lambda: table_of(STAR, ends=thing), lambda: many_with(STAR, ((0, 3),), ((1, 2),), ends=thing)):
                    with self.assertRaises(NoEnds):
                        ask()
        for ends in ((0,), (1, 2), (2,)):
            with self.assertRaises(NoEnds):
                table_of(LOOP_AND_ENDS, ends=ends)


class TestManyWith(unittest.TestCase):
    def test_against_tables(self):
        empty = 0
        for web in WEBS:
            for ends in told_ends(web):
                table = plain_table(web, ends)
                for painted, bare, _ in {account for account, _ in plain_table(web)}:
                    wanted = tuple(sorted((account[2], many) for account, many in table if account[:2] == (painted, bare)))
                    self.assertEqual(many_with(web, painted, bare, ends=ends), wanted)
                    empty += not wanted
        self.assertGreater(empty, 20)
        # Ties that no painting has: these would have to pass one another.
        self.assertEqual(many_with(STAR, ((0, 1), (2, 3)), ()), ())
        self.assertEqual(many_with(EIGHT, (), ()), ((2, 2),))

    def test_refusals(self):
        with self.assertRaises(NoWeb):
            many_with(None, None, None, ends=0)
        right = 0
        for thing in ANYTHING + spoiled(((0, 1),)) + [((0, 1), (2, 3)), (), ((0, 2),), ((1, 0),), ((0, 0),), ((0, 4),)]:
            for painted, bare in ((thing, ((2, 3),)), (((2, 3),), thing), (thing, ()), ((), thing), (thing, thing)):
                if plain_are_ties(STAR, painted, bare):
                    many_with(STAR, painted, bare)
                    right += 1
                else:
                    with self.assertRaises(NoEnds):
                        many_with(STAR, painted, bare)
        self.assertGreater(right, 3)
        for painted, bare in ((((2, 3), (0, 1)), ()), (((0, 1),), ((0, 1),)), (((0, 1),), ()), (((0, 1), (1, 2)), ((2, 3),))):
            with self.assertRaises(NoEnds):
                many_with(STAR, painted, bare)


class TestTablesOver(unittest.TestCase):
    def test_gone_over_twice_as_it_was(self):
        moved = 0
        for web in WEBS:
            chance = Random(3)
            for mating in [chance.choice(plain_matings(web)) for _ in range(3)]:
                table = table_of(web)
                told = table_over(web, mating, table)
                self.assertEqual(told, plain_table_over(web, mating, table))
                self.assertEqual(table_over(web, mating, told), table)
                moved += told != table
        self.assertGreater(moved, 20)

    def test_of_tables_that_no_painting_has(self):
        table = (((((0, 1), (2, 3)), (), 7), 10 ** 39), ((((0, 3), (1, 2)), (), 0), 1))
        self.assertEqual(table_over(STAR, (2,), table), (
            (((), ((0, 1), (2, 3)), 7), 10 ** 39), (((), ((0, 3), (1, 2)), 0), 1),
        ))
        self.assertEqual(table_over(STAR, (0,), ()), ())
        self.assertEqual(table_over(EMPTY, (), ((((), (), 3), 2),)), ((((), (), 3), 2),))

    def test_the_same_in_wheels_with_ends_by_turns(self):
        unlike = 0
        for web, first, second in shape_wheels():
            if web[0] > 6:
                continue
            for ends in sorted({plain_painted_ends(web, row) for row in plain_paintings(web)}):
                rows = [row for row in plain_paintings(web) if plain_painted_ends(web, row) == ends]
                table = table_of(web, ends=ends)
                for mating in (first, second):
                    if plain_is_by_turns(web, first, second, rows[0]):
                        self.assertEqual(table_over(web, mating, table), table)
                    else:
                        unlike += table_over(web, mating, table) != table
        self.assertGreater(unlike, 0)
        for shape in (("board", 4, 4), ("board", 5, 5), ("tube", 5, 6), ("tube", 15, 4)):
            web, matings = plain_shape(shape), plain_made_matings(shape)
            table = table_of(web, ends=plain_painted_ends(web, plain_made_painting(shape)))
            self.assertGreater(len(table), 0)
            for mating in matings:
                self.assertEqual(table_over(web, mating, table), table)

    def test_refusals(self):
        with self.assertRaises(NoWeb):
            table_over(None, None, None)
        with self.assertRaises(NoMating):
            table_over(STAR, None, None)
        right = wrong = 0
        tables = [table_of(STAR), table_of(LOOP_AND_ENDS), table_of(EIGHT), plain_table(BOARD)[:3]]
        for web, table in zip((STAR, LOOP_AND_ENDS, EIGHT, BOARD), tables):
            mating = random_mating(2, web)
            things = ANYTHING + spoiled(table[:2]) + [table[::-1], table + table[-1:], (table,), table[0]]
            things += [table[:1] + ((table[0][0], 5),), ((table[0][0], True),), ((table[0][0][:2] + (False,), 1),)]
            for thing in things:
                if plain_is_table(web, thing):
                    self.assertEqual(table_over(web, mating, thing), plain_table_over(web, mating, thing))
                    right += 1
                else:
                    with self.assertRaises(NoEnds):
                        table_over(web, mating, thing)
                    wrong += 1
        self.assertGreater(right, 20)
        self.assertGreater(wrong, 300)


if __name__ == "__main__":
    unittest.main()
