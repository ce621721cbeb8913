"""[38] to [40]: a keeper: deeds done, taken back, done again; rows whole or not at all; heirs now."""

import unittest
from random import Random

from plain_deeds import (
    MIDDLE_WEBS, chance_keeping_deed, chance_painting, is_tie, near_own, plain_behind, plain_clusters, plain_first_loud,
    plain_heirs, plain_is_deed, plain_is_flips, plain_lines, plain_loud,
)
from plain_led import plain_along, plain_heirs_along, plain_met
from plain_products import (
    chance_labels, chance_perm, is_unit, plain_cells, plain_closed, plain_cycles, plain_product, undo,
)
from support import (
    ANYTHING, BOARD, EIGHT, EMPTY, LONG, LOOP_AND_ENDS, ROUND, SMALL_WEBS, STAR, alike, board, plain_ends, plain_is_mating,
    plain_is_painting, plain_own, random_mating, spoiled,
)
from tiewheel.keeper.keeper import Keeper
from tiewheel.led.along import gone_along, heirs_along
from tiewheel.products.labels import pinned
from tiewheel.webs.errors import (
    Loud, NoBack, NoDeeds, NoFlips, NoLabels, NoMating, NoNumber, NoPainting, NoWeb,
)

WEBS = SMALL_WEBS[:24] + MIDDLE_WEBS[:4]


def plain_cancel(web, mating, labels):
    return all(is_unit(plain_product(web, labels, row)) for _, row in plain_cells(web, mating))


def some_labels(web, painting, seed):
    """None, labels that cancel by one mating, pinned ones, and such with any labels on ends."""
    chance = Random(seed)
    size = chance.randint(1, 5)
    if seed % 4 == 0:
        return None
    if seed % 4 == 1:
        return plain_closed(web, near_own(web, painting, seed), chance_labels(web, size, seed))
    perms = tuple(chance_perm(chance, size) for _ in range(web[0]))
    labels = pinned(web, perms)
    if seed % 4 == 2:
        return labels
    return tuple(chance_perm(chance, size) if len(way) == 1 else label for way, label in zip(web[1], labels))


def plain_carried_now(web, painting, labels, deeds):
    heirs, gone = plain_along(web, painting, deeds)
    told = []
    for (_, row), (_, heir) in zip(plain_lines(web, painting), heirs):
        product = plain_product(web, labels, heir)
        if is_tie(web, row):
            told.append(product if heir[0] == gone[row[0]] else undo(product))
        else:
            told.append(plain_cycles(product))
    return told


class TestKeepers(unittest.TestCase):
    def check(self, keeper, web, painting, labels, deeds):
        """All that a keeper tells, told plainly of the deeds that stand."""
        met = plain_met(web, painting, deeds)
        self.assertEqual((keeper.first(), keeper.now(), keeper.log(), len(keeper)), (painting, met[-1], tuple(deeds), len(deeds)))
        self.assertEqual([keeper.stood(count) for count in range(len(deeds) + 1)], met)
        wanted = plain_heirs_along(web, painting, deeds)
        self.assertTrue(alike(keeper.heirs_now(), wanted))
        for number, row in enumerate(wanted):
            self.assertEqual(keeper.heir(number), row)
            self.assertEqual(keeper.first_of(row[0]), number)
        gone = plain_along(web, painting, deeds)[1]
        self.assertEqual(keeper.gone_now(), tuple((end, gone[end]) for end in plain_ends(web)))
        lines = plain_lines(web, painting)
        rings = len([row for _, row in lines if not is_tie(web, row)])
        self.assertEqual(str(keeper), f"{len(deeds)} deeds, {rings} rings, {len(lines) - rings} ties")
        if labels is None:
            for number in (0, None):
                with self.assertRaises(NoLabels):
                    keeper.carried_now(number)
        else:
            told = [keeper.carried_now(number) for number in range(len(lines))]
            self.assertEqual(told, plain_carried_now(web, painting, labels, deeds))
            for number, (_, row) in enumerate(lines):
                if not is_tie(web, row):
                    self.assertEqual(told[number], plain_cycles(plain_product(web, labels, row)))

    def test_a_new_one(self):
        for web in SMALL_WEBS + [LONG, ROUND]:
            painting = chance_painting(web, 1)
            for labels in (None, chance_labels(web, 3, 1)):
                self.check(Keeper(web, painting, labels=labels), web, painting, labels, [])
        self.assertEqual(str(Keeper(EIGHT, (0,))), "0 deeds, 2 rings, 0 ties")

    def test_of_anything(self):
        for thing in ANYTHING:
            with self.assertRaises(NoWeb):
                Keeper(thing, None, labels=0)
            if not plain_is_painting(EIGHT, thing):
                with self.assertRaises(NoPainting):
                    Keeper(EIGHT, thing, labels=0)
            if thing is not None:
                with self.assertRaises(NoLabels):
                    Keeper(EIGHT, (0,), labels=thing)
        with self.assertRaises(TypeError):
            Keeper(EIGHT, (0,), ((0,), (0,)))

    def test_any_deeds_taken_back_and_done_again(self):
        refused = set()
        for seed, web in enumerate(WEBS * 4):
            chance = Random(seed)
            painting = chance_painting(web, seed)
            labels = some_labels(web, painting, seed)
            keeper, deeds, ready = Keeper(web, painting, labels=labels), [], []
            for _ in range(14):
                here = plain_met(web, painting, deeds)[-1]
                word = chance.choice(["do", "do", "do", "word", "back", "again"])
                if word in ("do", "word"):
                    deed = chance_keeping_deed(web, here, chance)
                    if deed[0] != "bare" and labels is not None and not plain_cancel(web, deed[1], labels):
                        with self.assertRaises(NoLabels):
                            self.put(keeper, deed, word)
                        refused.add("labels")
                    else:
                        told = self.put(keeper, deed, word)
                        self.assertEqual(told, plain_heirs(web, here, deed))
                        deeds, ready = deeds + [deed], []
                else:
                    many = chance.randint(0, 3)
                    stack = deeds if word == "back" else ready
                    ask = keeper.back if word == "back" else keeper.again
                    if many > len(stack):
                        with self.assertRaises(NoBack) as caught:
                            ask(many=many)
                        self.assertEqual(caught.exception.many, many)
                        refused.add(word)
                    else:
                        for _ in range(many):
                            (ready if word == "back" else deeds).append(stack.pop())
                        self.assertEqual(ask(many=many), plain_met(web, painting, deeds)[-1])
            self.check(keeper, web, painting, labels, deeds)
            self.assertEqual(keeper.again(many=len(ready)), plain_met(web, painting, deeds + ready[::-1])[-1])
            self.check(keeper, web, painting, labels, deeds + ready[::-1])
            keeper.back(many=len(keeper))
            self.check(keeper, web, painting, labels, [])
        self.assertEqual(refused, {"labels", "back", "again"})

    def put(self, keeper, deed, word):
        if word == "do":
            return keeper.do(deed)
        if deed[0] == "turn":
            return keeper.turn(deed[1])
        return keeper.bare() if deed[0] == "bare" else keeper.flip(deed[1], deed[2])

    def test_sixty_posts_and_none(self):
        for web in (LONG, ROUND, board(6, 10), EMPTY):
            painting, chance = chance_painting(web, 1), Random(1)
            labels = some_labels(web, painting, 3)
            keeper, deeds, here = Keeper(web, painting, labels=labels), [], painting
            for _ in range(5):
                deeds.append(chance_keeping_deed(web, here, chance))
                if deeds[-1][0] != "bare" and not plain_cancel(web, deeds[-1][1], labels):
                    deeds.pop()
                    continue
                keeper.do(deeds[-1])
                here = plain_behind(web, here, deeds[-1])
            self.check(keeper, web, painting, labels, deeds)

    def test_heirs_as_along_rows(self):
        for seed, web in enumerate(WEBS):
            painting, chance = chance_painting(web, 4), Random(seed)
            keeper, here = Keeper(web, painting), painting
            for _ in range(4):
                deed = chance_keeping_deed(web, here, chance)
                keeper.do(deed)
                here = plain_behind(web, here, deed)
            self.assertEqual(keeper.heirs_now(), heirs_along(web, painting, keeper.log()))
            self.assertEqual(keeper.gone_now(), gone_along(web, painting, keeper.log()))


class TestRefusals(unittest.TestCase):
    def state(self, keeper):
        twin = keeper.twin()
        ready = []
        while True:
            try:
                ready.append(twin.again())
            except NoBack:
                break
        return (keeper.now(), keeper.log(), keeper.heirs_now(), keeper.gone_now(), str(keeper), len(keeper), tuple(ready))

    def ready_keeper(self, web=STAR, painting=(0, 1), labels=None):
        """One deed stands, one is ready."""
        keeper = Keeper(web, painting, labels=labels)
        keeper.bare()
        keeper.bare()
        keeper.back()
        return keeper

    def refuses(self, keeper, error, ask, *things):
        before = self.state(keeper)
        with self.assertRaises(error) as caught:
            ask(*things)
        self.assertIs(caught.exception.__class__, error)
        self.assertEqual(self.state(keeper), before)
        return caught.exception

    def test_matings_and_flips(self):
        keeper = self.ready_keeper()
        for thing in ANYTHING + [(0, 0), (3,), (True,)]:
            if not plain_is_mating(STAR, thing):
                self.refuses(keeper, NoMating, keeper.turn, thing)
                self.refuses(keeper, NoMating, keeper.flip, thing, None)
            if not plain_is_flips(STAR, (2, 3), (2,), thing):
                self.refuses(keeper, NoFlips, keeper.flip, (2,), thing)
        self.assertEqual(len(self.state(keeper)[-1]), 1)

    def test_deeds(self):
        keeper = self.ready_keeper()
        for thing in ANYTHING + spoiled(("flip", (2,), (0, 1))) + [("turn", (0,), ()), ("flip", (2,)), ("bare", ())]:
            if not plain_is_deed(STAR, (2, 3), thing):
                self.refuses(keeper, NoDeeds, keeper.do, thing)
                self.refuses(keeper, NoDeeds, keeper.do_all, (("bare",), ("bare",), thing))
                self.refuses(keeper, NoDeeds, keeper.do_all, (thing, None))

    def test_loud_ones_ahead_of_labels(self):
        met = 0
        for web in WEBS:
            painting = chance_painting(web, 2)
            for seed in range(4):
                mating = tuple((at + Random(seed).choice((1, 2))) % 3 for at in plain_own(web, painting))
                loud = plain_loud(web, painting, mating)
                if not loud or not web[1]:
                    continue
                labels = chance_labels(web, 4, seed)
                keeper = Keeper(web, painting, labels=labels)
                keeper.bare()
                keeper.back()
                many = len(plain_clusters(web, painting, mating))
                for flips in (loud, tuple(range(many)), loud[-1:]):
                    first = plain_first_loud(web, painting, ("flip", mating, flips))
                    for ask, things in ((keeper.flip, (mating, flips)), (keeper.do, (("flip", mating, flips),)),
                                        (keeper.do_all, ((("bare",), ("bare",), ("flip", mating, flips)),))):
                        told = self.refuses(keeper, Loud, ask, *things)
                        self.assertEqual(repr(told.cluster), repr(first))
                if not plain_cancel(web, mating, labels):
                    for ask, things in ((keeper.turn, (mating,)), (keeper.flip, (mating, ())), (keeper.do, (("turn", mating),)),
                                        (keeper.do_all, ((("bare",), ("turn", mating)),))):
                        self.refuses(keeper, NoLabels, ask, *things)
                    self.refuses(keeper, NoFlips, keeper.flip, mating, (many,))
                    met += 1
                keeper.bare()
        self.assertGreater(met, 10)

    def test_back_and_again(self):
        keeper = self.ready_keeper()
        for ask in (keeper.back, keeper.again):
            for many in (-1, True, False, None, "1", (1,), [], -10 ** 39):
                told = self.refuses(keeper, NoNumber, lambda ask=ask, many=many: ask(many=many))
                self.assertIs(told.number, many)
            for many in (2, 3, 10 ** 39):
                told = self.refuses(keeper, NoBack, lambda ask=ask, many=many: ask(many=many))
                self.assertEqual(told.many, many)
            self.assertEqual(ask(many=0), (2, 3))
        self.assertEqual(keeper.again(), (0, 1))
        self.assertEqual(keeper.back(many=2), (0, 1))
        self.assertEqual(keeper.again(many=2), (0, 1))
        self.assertEqual(len(keeper), 2)
        self.refuses(keeper, NoBack, keeper.again)
        self.assertIsInstance(NoBack(3), KeyError)

    def test_done_since_nothing_is_ready(self):
        for ask in (lambda keeper: keeper.bare(), lambda keeper: keeper.turn((2,)), lambda keeper: keeper.flip((2,), ()),
                    lambda keeper: keeper.do(("bare",)), lambda keeper: keeper.do_all((("bare",),))):
            keeper = self.ready_keeper()
            ask(keeper)
            self.refuses(keeper, NoBack, keeper.again)
            self.assertEqual(keeper.again(many=0), keeper.now())

    def test_numbers(self):
        keeper = self.ready_keeper(labels=((0, 1),) * 4)
        for number in (-1, 2, True, False, None, "0", (0,), 10 ** 39):
            for ask in (keeper.heir, keeper.first_of, keeper.carried_now, keeper.stood):
                told = self.refuses(keeper, NoNumber, ask, number)
                self.assertIs(told.number, number)
        self.assertEqual([keeper.stood(0), keeper.stood(1)], [(0, 1), (2, 3)])
        plain = self.ready_keeper()
        for number in (0, -1, None):
            self.refuses(plain, NoLabels, plain.carried_now, number)


class TestRows(unittest.TestCase):
    def test_whole_or_not_at_all(self):
        refused = 0
        for seed, web in enumerate(WEBS * 3):
            chance = Random(seed)
            painting = chance_painting(web, seed)
            keeper, deeds, here = Keeper(web, painting), [], painting
            for _ in range(4):
                deeds.append(chance_keeping_deed(web, here, chance))
                here = plain_behind(web, here, deeds[-1])
            wrong = [("bare", 0), ("turn", None), None]
            keeper.bare()
            keeper.back()
            for at in range(5):
                for thing in wrong:
                    row = tuple(deeds[:at]) + (thing,) + tuple(deeds[at:])
                    with self.assertRaises(NoDeeds):
                        keeper.do_all(row)
                    self.assertEqual((keeper.now(), keeper.log(), len(keeper)), (painting, (), 0))
                    self.assertEqual(keeper.heirs_now(), plain_heirs_along(web, painting, ()))
                    refused += 1
            # What was taken back stands ready as ahead.
            self.assertEqual(keeper.again(), plain_behind(web, painting, ("bare",)))
            keeper.back()
            self.assertEqual(keeper.do_all(()), 0)
            self.assertEqual(keeper.again(), plain_behind(web, painting, ("bare",)))
            keeper.back()
            self.assertEqual(repr(keeper.do_all(tuple(deeds))), "4")
            self.assertEqual(keeper.log(), tuple(deeds))
            self.assertEqual(keeper.now(), here)
            self.assertEqual(keeper.heirs_now(), plain_heirs_along(web, painting, deeds))
            self.assertEqual(keeper.rows_tried(), 17)
            for at in range(4):
                keeper.back()
                self.assertEqual(keeper.now(), plain_met(web, painting, deeds[:3 - at])[-1])
        self.assertGreater(refused, 500)

    def test_each_looked_at_as_the_painting_is_when_it_comes(self):
        # The deed that bars is one of the first painting but none of what it meets.
        met = 0
        for web in WEBS:
            painting = chance_painting(web, 3)
            mating = near_own(web, painting, 6)
            many = len(plain_clusters(web, painting, mating))
            quiet = tuple(at for at in range(many) if at not in plain_loud(web, painting, mating))
            for other in (("turn", tuple((at + 1) % 3 for at in mating)), ("turn", random_mating(2, web))):
                then = plain_behind(web, painting, other)
                deed = ("flip", mating, quiet)
                row = (other, deed)
                keeper = Keeper(web, painting)
                if not plain_is_deed(web, then, deed):
                    with self.assertRaises(NoDeeds):
                        keeper.do_all(row)
                    met += 1
                elif plain_first_loud(web, then, deed) is not None:
                    with self.assertRaises(Loud):
                        keeper.do_all(row)
                    met += 1
                else:
                    self.assertEqual(keeper.do_all(row), 2)
        self.assertGreater(met, 0)

    def test_no_row(self):
        keeper = Keeper(STAR, (0, 1))
        keeper.bare()
        keeper.back()
        tried = 0
        for thing in ANYTHING:
            if not isinstance(thing, tuple) or thing:
                with self.assertRaises(NoDeeds):
                    keeper.do_all(thing)
                tried += 1
                self.assertEqual(keeper.rows_tried(), tried)
        self.assertEqual(keeper.again(), (2, 3))
        self.assertEqual(keeper.log(), (("bare",),))

    def test_sixty_one_deeds_and_more(self):
        for web in (STAR, EMPTY, LOOP_AND_ENDS):
            for many in (60, 61, 150):
                keeper = Keeper(web, chance_painting(web, 1))
                row = (("bare",), ("turn", (2,) * web[0])) * many
                self.assertEqual(keeper.do_all(row), 2 * many)
                self.assertEqual(len(keeper), 2 * many)
                self.assertEqual(keeper.log(), row)
                with self.assertRaises(NoDeeds):
                    keeper.do_all(row + (None,))
                self.assertEqual(keeper.log(), row)
                self.assertEqual(keeper.back(many=2 * many), chance_painting(web, 1))
                self.assertEqual(keeper.rows_tried(), 2)


class TestTwins(unittest.TestCase):
    def test_nothing_done_with_the_one_is_seen_in_the_other(self):
        for web in (STAR, BOARD, EIGHT):
            painting = chance_painting(web, 1)
            keeper = Keeper(web, painting, labels=pinned(web, ((0, 1),) * web[0]))
            keeper.do_all((("bare",), ("turn", (2,) * web[0]), ("bare",)))
            keeper.back(many=2)
            twin = keeper.twin()
            self.assertTrue(keeper == twin)
            self.assertEqual((twin.rows_tried(), keeper.rows_tried()), (0, 1))
            self.assertEqual(twin.carried_now(0), keeper.carried_now(0))
            # What is ready, too.
            twin.again(many=2)
            self.assertEqual((len(twin), len(keeper)), (3, 1))
            self.assertFalse(keeper == twin)
            keeper.again()
            keeper.back(many=2)
            self.assertEqual(len(twin), 3)
            keeper.bare()
            self.assertEqual((twin.log()[0], len(twin)), (("bare",), 3))
            twin.back(many=3)
            twin.again(many=3)
            with self.assertRaises(NoBack):
                keeper.again()
            twin.do_all(())
            self.assertEqual((twin.rows_tried(), keeper.rows_tried()), (1, 1))

    def test_equal_just_with_the_same(self):
        labels = ((0, 1),) * 4
        keeper = Keeper(STAR, (0, 1))
        self.assertIs(keeper == Keeper(STAR, (0, 1)), True)
        self.assertIs(keeper == Keeper(STAR, (2, 3)), False)
        self.assertIs(keeper == Keeper(STAR, (0, 1), labels=labels), False)
        self.assertIs(Keeper(STAR, (0, 1), labels=labels) == Keeper(STAR, (0, 1), labels=labels), True)
        self.assertIs(Keeper(STAR, (0, 1), labels=labels) == Keeper(STAR, (0, 1), labels=((0,),) * 4), False)
        self.assertIs(Keeper(EIGHT, (0,)) == Keeper((1, ((0, 2), (1, 3))), (0,)), False)
        other = Keeper(STAR, (0, 1))
        other.bare()
        self.assertIs(keeper == other, False)
        keeper.turn((0,))
        self.assertIs(keeper == other, False)
        keeper.back()
        keeper.bare()
        other.bare()
        other.back()
        self.assertIs(keeper == other, True)
        # The same painting now by other deeds: another log.
        other.do_all((("bare",), ("bare",)))
        self.assertIs(keeper == other, False)
        self.assertIs(keeper != other, True)
        for thing in ANYTHING:
            self.assertIs(keeper == thing, False)
            self.assertIs(keeper != thing, True)

    def test_what_is_told_changes_nothing(self):
        keeper = Keeper(BOARD, chance_painting(BOARD, 1), labels=((0,),) * 12)
        keeper.bare()
        for told in (keeper.log(), keeper.heirs_now(), keeper.gone_now(), keeper.now(), keeper.first(), keeper.carried_now(0),
                     keeper.stood(1), keeper.heir(0), keeper.back(), keeper.again(), keeper.do(("bare",))):
            self.assertIsInstance(told, tuple)

    def test_labels_of_one_size_for_each_way(self):
        painting = chance_painting(BOARD, 1)
        for labels in (((0,),) * 11, ((0,),) * 11 + ((0, 1),), ((0, 0),) * 12, [(0,)] * 12, ()):
            with self.assertRaises(NoLabels):
                Keeper(BOARD, painting, labels=labels)


if __name__ == "__main__":
    unittest.main()
