"""[19], as far as permutations by themselves."""

import unittest
from itertools import permutations, product

from support import ANYTHING, alike, spoiled
from tiewheel.products.perms import MOST_SIZE, cycles, inverse, is_perm, then, unit
from tiewheel.webs.errors import NoLabels, NoNumber

ALL = [row for size in range(1, 6) for row in permutations(range(size))]
NONE = [
    (), (0, 1, 2, 3, 4, 5), (5, 4, 3, 2, 1, 0), (1,), (-1,), (0, 0), (1, 1), (0, 2), (1, 2), (-1, 0), (0, 1, 3), (True,),
    (False,), (True, False), (False, 1), (0, True), [0], [0, 1], [], {0: 0}, "0", "01", ("0",), (None,), ((0,),), 0, 1,
    None, True, False, (10 ** 39,), (0, 10 ** 39), (0, 1, 2, 3, 4, 4), (0, 1, 1), (2, 0, 1, 2), ([0],), (0, []), (0, {}),
]


def plain_cycles(row):
    lengths = []
    left = set(range(len(row)))
    while left:
        cycle = [left.pop()]
        while row[cycle[-1]] in left:
            cycle.append(row[cycle[-1]])
            left.remove(cycle[-1])
        lengths.append(len(cycle))
    return tuple(sorted(lengths))


class TestPerms(unittest.TestCase):
    def test_is_perm(self):
        self.assertEqual(repr(MOST_SIZE), "5")
        self.assertEqual(len(ALL), 1 + 2 + 6 + 24 + 120)
        for row in ALL:
            self.assertIs(is_perm(row), True)
        for size in range(7):
            for row in product(range(-1, 3), repeat=size) if size < 5 else permutations(range(6), size):
                expected = 1 <= size <= 5 and sorted(row) == list(range(size))
                self.assertIs(is_perm(row), expected, row)

    def test_anything(self):
        for thing in NONE:
            self.assertIs(is_perm(thing), False, thing)
        for thing in ANYTHING + [thing for row in ALL[:9] + ALL[-3:] for thing in spoiled(row)]:
            self.assertIs(is_perm(thing), any(alike(thing, row) for row in ALL), thing)

    def test_unit(self):
        for size in range(1, 6):
            self.assertEqual(unit(size), tuple(range(size)))
        for size in (0, 6, -1, True, False, None, "1", "3", (1,), [3], {}, 10 ** 39, -10 ** 39):
            with self.assertRaises(NoNumber) as caught:
                unit(size)
            self.assertIs(caught.exception.number, size)

    def test_then_by_hand(self):
        self.assertEqual(then((1, 2, 0), (0, 2, 1)), (2, 1, 0))
        self.assertEqual(then((0, 2, 1), (1, 2, 0)), (1, 0, 2))
        self.assertEqual(then((0,), (0,)), (0,))

    def test_then_and_inverse(self):
        for size in range(1, 6):
            rows = [row for row in ALL if len(row) == size]
            for one in rows[:30] + rows[-30:]:
                back = inverse(one)
                self.assertEqual(tuple(back[x] for x in one), unit(size))
                self.assertEqual(then(one, back), unit(size))
                self.assertEqual(then(back, one), unit(size))
                for other in rows[:20] + rows[-20:]:
                    both = then(one, other)
                    self.assertEqual(both, tuple(other[one[x]] for x in range(size)))
                    self.assertEqual(inverse(both), then(inverse(other), inverse(one)))
                    self.assertEqual(cycles(both), cycles(then(other, one)))

    def test_cycles(self):
        self.assertEqual(cycles((0,)), (1,))
        self.assertEqual(cycles((0, 1, 2)), (1, 1, 1))
        self.assertEqual(cycles((1, 2, 0)), (3,))
        self.assertEqual(cycles((1, 0, 2, 4, 3)), (1, 2, 2))
        self.assertEqual(cycles((1, 0, 3, 4, 2)), (2, 3))
        self.assertEqual(cycles((1, 2, 3, 4, 0)), (5,))
        for row in ALL:
            self.assertEqual(cycles(row), plain_cycles(row))
            self.assertEqual(sum(cycles(row)), len(row))

    def test_no_labels(self):
        for thing in NONE + ANYTHING:
            if any(alike(thing, row) for row in ALL):
                continue
            for ask in (inverse, cycles, lambda row: then(row, (0, 1)), lambda row: then((0, 1), row)):
                with self.assertRaises(NoLabels):
                    ask(thing)

    def test_no_labels_of_unlike_sizes(self):
        for one, other in product(range(1, 6), repeat=2):
            rows = tuple(range(one)), tuple(range(other))
            if one == other:
                self.assertEqual(then(*rows), rows[0])
            else:
                with self.assertRaises(NoLabels):
                    then(*rows)


if __name__ == "__main__":
    unittest.main()
