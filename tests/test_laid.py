"""[35]: borders laid one behind another, rings made, ties through, clusters changed."""

import unittest

from plain_deeds import (
    MIDDLE_WEBS, chance_painting, is_tie, near_own, plain_clusters, plain_crossed, plain_lines,
)
from plain_joins import alike_pairs, chance_pairs, plain_moved, plain_sewn
from plain_products import chance_labels, compose, plain_product, undo
from support import (
    ANYTHING, BOARD, EIGHT, EMPTY, LONG, LOOP_AND_ENDS, SMALL_WEBS, STAR, alike, board, plain_ends, plain_matings,
    plain_own, plain_painted_hands, plain_strands, random_mating, spoiled,
)
from tiewheel.clusters.flips import turned
from tiewheel.joins.joins import sewn_labels, sewn_painting
from tiewheel.joins.laid import changed, laid, rings_made, shows_laid, tied_through
from tiewheel.webs.errors import NoEnds, NoHand, NoJoin, NoMating, NoPainting, NoWeb

WEBS = SMALL_WEBS + MIDDLE_WEBS + [LONG, board(6, 10)]


def plain_laid(web, mating, pairs):
    """Read off the sewn web's strands: of each that has hands that were ends these, as they are passed."""
    there = plain_sewn(web, pairs)
    ends = plain_ends(web)
    rows = []
    for row in plain_strands(there, mating):
        passed = [hand for hand in row if hand in ends]
        if is_tie(there, row):
            rows.append(("border", tuple(passed)))
        elif passed:
            # From the least end on, over next: its mate's side, not the other one of its pair.
            at = passed.index(min(passed))
            about = passed[at:] + passed[:at]
            pair = [pair for pair in pairs if min(passed) in pair][0]
            if sum(pair) - min(passed) == about[1] and not (len(passed) == 2 and about[1] == about[-1]):
                about = about[:1] + about[:0:-1]
            rows.append(("cell", tuple(about)))
    return tuple(sorted(rows))


def samples(paintings=2):
    for web in WEBS:
        for seed in range(paintings):
            painting = chance_painting(web, seed)
            yield web, painting, alike_pairs(web, painting, seed + 1)
            yield web, painting, alike_pairs(web, painting, seed + 7)


class TestLaid(unittest.TestCase):
    def test_by_hand(self):
        self.assertEqual(laid(STAR, (2,), ((0, 1),)), (("border", (2, 0, 1, 3)),))
        self.assertEqual(laid(STAR, (0,), ((0, 1),)), (("border", (2, 3)), ("cell", (0, 1))))
        self.assertEqual(laid(STAR, (2,), ((0, 1), (2, 3))), (("cell", (0, 2, 3, 1)),))
        self.assertEqual(laid(STAR, (2,), ((0, 3), (1, 2))), (("cell", (0, 2, 1, 3)),))
        self.assertEqual(laid(STAR, (2,), ()), (("border", (0, 2)), ("border", (1, 3))))
        self.assertEqual(laid(EMPTY, (), ()), ())
        self.assertEqual(laid(EIGHT, (1,), ()), ())

    def test_against_strands_of_the_sewn_web(self):
        words = set()
        for web in WEBS:
            for seed in range(4):
                mating, pairs = random_mating(seed, web), chance_pairs(web, seed)
                told = laid(web, mating, pairs)
                self.assertEqual(told, plain_laid(web, mating, pairs))
                self.assertEqual(sorted(end for _, row in told for end in row), list(plain_ends(web)))
                words |= {(word, len(row) > 2) for word, row in told}
                there = plain_strands(plain_sewn(web, pairs), mating)
                cells = [row for row in plain_strands(web, mating) if not is_tie(web, row)]
                self.assertTrue(set(cells) <= set(there))
                self.assertEqual(len(there), len(cells) + len(told))
        self.assertEqual(len(words), 4)

    def test_each_row_steps_over_and_to_the_other_of_the_pair(self):
        for web in WEBS[::2]:
            mating, pairs = random_mating(5, web), chance_pairs(web, 5)
            paired = {one: other for pair in pairs for one, other in (pair, pair[::-1])}
            borders = {frozenset((row[0], row[-1])) for row in plain_strands(web, mating) if is_tie(web, row)}
            for word, row in laid(web, mating, pairs):
                for one, other in zip(row[::2], row[1::2]):
                    self.assertIn(frozenset((one, other)), borders)
                steps = list(zip(row[1::2], row[2::2])) + ([(row[-1], row[0])] if word == "cell" else [])
                for one, other in steps:
                    self.assertEqual(paired[one], other)
                if word == "border":
                    self.assertFalse({row[0], row[-1]} & set(paired))
                    self.assertLess(row[0], row[-1])
                else:
                    self.assertEqual(row[0], min(row))

    def test_shows(self):
        right = wrong = 0
        for web in (STAR, LOOP_AND_ENDS, BOARD, board(2, 3)):
            for seed in range(5):
                mating, pairs = random_mating(seed, web), chance_pairs(web, seed)
                rows = plain_laid(web, mating, pairs)
                for word, row in rows:
                    self.assertIs(shows_laid(web, mating, pairs, (word, row)), True)
                    right += 1
                    things = spoiled((word, row)) + [(word, row[::-1]), (word, row[2:] + row[:2]), (word, row[1:] + row[:1])]
                    things += [("cell" if word == "border" else "border", row), [word, row], (word, list(row)), row]
                    things += [(word, (bool(row[0]),) + row[1:])] if row[0] in (0, 1) else []
                    for thing in things:
                        wanted = any(alike(thing, told) for told in rows)
                        self.assertIs(shows_laid(web, mating, pairs, thing), wanted, thing)
                        wrong += not wanted
                for thing in ANYTHING:
                    self.assertIs(shows_laid(web, mating, pairs, thing), False)
        self.assertGreater(right, 20)
        self.assertGreater(wrong, 500)


class TestLines(unittest.TestCase):
    def test_rings_made(self):
        met = set()
        for web, painting, pairs in samples(3):
            there = plain_sewn(web, pairs)
            then = plain_moved(web, there, painting)
            rings = [[row for _, row in plain_lines(*both) if not is_tie(both[0], row)] for both in ((web, painting), (there, then))]
            told = rings_made(web, painting, pairs)
            self.assertEqual(repr(told), repr(len(rings[1]) - len(rings[0])))
            self.assertTrue(set(rings[0]) <= set(rings[1]))
            met.add(told)
        self.assertTrue({0, 1, 2} <= met, met)
        self.assertEqual(rings_made(EMPTY, (), ()), 0)

    def test_tied_through(self):
        longer = 0
        for web, painting, pairs in samples(3):
            there = plain_sewn(web, pairs)
            then = plain_moved(web, there, painting)
            ties = {end: row[0] + row[-1] - end for _, row in plain_lines(there, then) if is_tie(there, row)
                    for end in (row[0], row[-1])}
            for end in plain_ends(there):
                self.assertEqual(tied_through(web, painting, pairs, end), ties[end])
            at_first = {end: row[0] + row[-1] - end for _, row in plain_lines(web, painting) if is_tie(web, row)
                        for end in (row[0], row[-1])}
            longer += len([end for end in ties if ties[end] != at_first[end]])
            for hand in range(4 * web[0]):
                if hand not in plain_ends(there):
                    with self.assertRaises(NoEnds):
                        tied_through(web, painting, pairs, hand)
        self.assertGreater(longer, 50)

    def assert_no_hand(self, web, painting, pairs, thing):
        with self.assertRaises(NoHand) as caught:
            tied_through(web, painting, pairs, thing)
        self.assertIs(caught.exception.__class__, NoHand)
        self.assertIs(caught.exception.hand, thing)

    def assert_no_end(self, web, painting, pairs, hand):
        with self.assertRaises(NoEnds) as caught:
            tied_through(web, painting, pairs, hand)
        self.assertIs(caught.exception.__class__, NoEnds)

    def test_no_hand(self):
        for web, painting, every in (
            (EMPTY, (), ((),)), (STAR, (0, 1), ((), ((0, 1),), ((0, 1), (2, 3)))), (EIGHT, (0,), ((),)),
            (LOOP_AND_ENDS, (0,), ((), ((1, 3),))),
        ):
            many = 4 * web[0]
            for pairs in every:
                for thing in ANYTHING + [many, many + 1, -many, -1, 10 ** 39, -10 ** 39, "1", [2], (2,), {2: 3}]:
                    if not (type(thing) is int and 0 <= thing < many):
                        self.assert_no_hand(web, painting, pairs, thing)

    def test_no_hand_no_end_and_an_end_in_a_pair_are_told_apart(self):
        met = {"hand": 0, "end": 0, "pair": 0, "told": 0}
        for web, painting, pairs in samples(2):
            ends, paired = plain_ends(web), {end for pair in pairs for end in pair}
            for hand in range(-2, 4 * web[0] + 2):
                if not 0 <= hand < 4 * web[0]:
                    self.assert_no_hand(web, painting, pairs, hand)
                    met["hand"] += 1
                elif hand not in ends:
                    self.assert_no_end(web, painting, pairs, hand)
                    met["end"] += 1
                elif hand in paired:
                    self.assert_no_end(web, painting, pairs, hand)
                    met["pair"] += 1
                else:
                    self.assertIn(tied_through(web, painting, pairs, hand), set(ends) - paired)
                    met["told"] += 1
        self.assertTrue(all(many > 20 for many in met.values()), met)

    def test_no_hand_no_end_by_hand(self):
        self.assert_no_hand(EMPTY, (), (), 0)
        self.assert_no_hand(STAR, (0, 1), (), 4)
        self.assert_no_hand(STAR, (0, 1), (), None)
        self.assert_no_end(STAR, (0, 1), ((0, 1),), 0)
        self.assert_no_end(STAR, (0, 1), ((0, 1),), 1)
        self.assert_no_end(EIGHT, (0,), (), 0)
        self.assert_no_end(LOOP_AND_ENDS, (0,), (), 2)
        self.assert_no_end(LOOP_AND_ENDS, (0,), ((1, 3),), 2)
        self.assert_no_end(LOOP_AND_ENDS, (0,), ((1, 3),), 3)
        self.assertEqual(tied_through(STAR, (0, 1), ((0, 1),), 2), 3)
        self.assertEqual(tied_through(LOOP_AND_ENDS, (0,), (), 1), 3)

    def test_what_goes_ahead_of_no_hand_and_no_end(self):
        # No hand; a hand that is no end; an end that is in a pair of the pairs below.
        for end in (None, 12, 0, 1):
            with self.assertRaises(NoWeb):
                tied_through((1, ()), (0,), ((1, 3),), end)
            with self.assertRaises(NoPainting):
                tied_through(LOOP_AND_ENDS, (0, 1), ((1, 3),), end)
            with self.assertRaises(NoJoin):
                tied_through(LOOP_AND_ENDS, (0,), ((3, 1),), end)
            with self.assertRaises(NoJoin):
                tied_through(LOOP_AND_ENDS, (0,), ((0, 1),), end)
        for end in (None, 4, 0, 2):
            # These are pairs, but of unlike ends: hand 2 is bare, hand 0 painted.
            with self.assertRaises(NoJoin):
                tied_through(STAR, (0, 1), ((0, 2),), end)

    def test_products_of_ties_laid(self):
        laid_behind = 0
        for web, painting, pairs in samples(2):
            there = plain_sewn(web, pairs)
            then = sewn_painting(web, painting, pairs)
            labels = chance_labels(web, 4, 3)
            behind = sewn_labels(web, labels, pairs)
            ties = {row[0]: row for _, row in plain_lines(web, painting) if is_tie(web, row)}
            ties.update({row[-1]: row for row in list(ties.values())})
            for _, row in plain_lines(there, then):
                if is_tie(there, row):
                    told = dict((word_row[1][0], word_row[1]) for word_row in laid(web, plain_own(web, painting), pairs)
                                if word_row[0] == "border")[row[0]]
                    product = (0, 1, 2, 3)
                    for end in told[::2]:
                        part = plain_product(web, labels, ties[end])
                        product = compose(product, part if ties[end][0] == end else undo(part))
                    self.assertEqual(plain_product(there, behind, row), product)
                    laid_behind += len(told) > 2
        self.assertGreater(laid_behind, 20)


class TestChanged(unittest.TestCase):
    def wanted(self, web, painting, mating, pairs):
        there = plain_sewn(web, pairs)
        then = plain_moved(web, there, painting)
        rows, strands = plain_strands(web, mating), plain_strands(there, mating)
        words = {}
        for word, lot in plain_clusters(there, then, mating):
            for number in lot:
                for hand in strands[number]:
                    words[hand] = word
        told = []
        for at, (word, lot) in enumerate(plain_clusters(web, painting, mating)):
            behind = {words[hand] for number in lot for hand in rows[number]}
            assert len(behind) == 1
            if behind != {word}:
                told.append((at, word, behind.pop()))
        return tuple(told)

    def test_against_clusters_of_both(self):
        met = set()
        for web, painting, pairs in samples(3):
            for mating in {random_mating(1, web), near_own(web, painting, 2),
                           tuple((at + 1) % 3 for at in plain_own(web, painting)), plain_own(web, painting)}:
                wanted = self.wanted(web, painting, mating, pairs)
                self.assertEqual(changed(web, painting, mating, pairs), wanted)
                met |= {row[1:] for row in wanted}
                there = plain_sewn(web, pairs)
                then = plain_moved(web, there, painting)
                self.assertEqual(plain_crossed(web, painting, mating), plain_crossed(there, then, mating))
                # Where none is changed, and there alone, the turn of the sewn one is the open one's, sewn.
                open_turned = turned(web, painting, mating)
                same = plain_moved(web, there, open_turned) == turned(there, then, mating)
                self.assertEqual(same, wanted == ())
        self.assertEqual(met, {("quiet", "loud"), ("loud", "quiet")})

    def test_by_hand(self):
        self.assertEqual(changed(STAR, (0, 1), (2,), ()), ())
        self.assertEqual(changed(EMPTY, (), (), ()), ())
        for mating in plain_matings(STAR):
            self.assertEqual(changed(STAR, (0, 1), mating, ((0, 1),)), self.wanted(STAR, (0, 1), mating, ((0, 1),)))


class TestRefusals(unittest.TestCase):
    def test_order(self):
        for ask, more in ((laid, ()), (shows_laid, (None,))):
            with self.assertRaises(NoWeb):
                ask(None, None, None, *more)
            with self.assertRaises(NoMating):
                ask(STAR, None, None, *more)
            for thing in ANYTHING:
                if thing != ():
                    with self.assertRaises(NoJoin):
                        ask(STAR, (0,), thing, *more)
        for ask, more in ((rings_made, ()), (tied_through, (None,))):
            with self.assertRaises(NoWeb):
                ask(None, None, None, *more)
            with self.assertRaises(NoPainting):
                ask(STAR, None, None, *more)
            for thing in ANYTHING + [((0, 2),), ((0, 3), (1, 2)), ((2, 3), (0, 1))]:
                if thing != ():
                    with self.assertRaises(NoJoin):
                        ask(STAR, (0, 1), thing, *more)
        with self.assertRaises(NoWeb):
            changed(None, None, None, None)
        with self.assertRaises(NoPainting):
            changed(STAR, None, None, None)
        with self.assertRaises(NoMating):
            changed(STAR, (0, 1), None, None)
        for pairs in (None, ((1, 0),), ((0, 2),), ((0, 3), (1, 2)), [(0, 1)]):
            with self.assertRaises(NoJoin):
                changed(STAR, (0, 1), (2,), pairs)

    def test_unlike_ends_are_refused(self):
        for web in (BOARD, board(2, 3)):
            for seed in range(12):
                painting, pairs = chance_painting(web, seed), chance_pairs(web, seed)
                hands = plain_painted_hands(web, painting)
                if all((one in hands) == (other in hands) for one, other in pairs):
                    rings_made(web, painting, pairs)
                else:
                    for ask, more in ((rings_made, (pairs,)), (tied_through, (pairs, None)), (changed, ((0,) * web[0], pairs))):
                        with self.assertRaises(NoJoin):
                            ask(web, painting, *more)


if __name__ == "__main__":
    unittest.main()
