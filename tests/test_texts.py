"""[41]: texts written and read."""

import unittest
from itertools import combinations
from random import Random

from plain_deeds import MIDDLE_WEBS, chance_keeping_deed, chance_painting, plain_behind, plain_clusters, plain_lines, small_samples
from plain_led import plain_are_deeds
from plain_products import chance_labels
from plain_texts import (
    figures, plain_deeds_text, plain_labels_text, plain_line_text, plain_read_deeds, plain_read_web, plain_web_text, words,
)
from support import (
    ANYTHING, BIG_WEBS, BOARD, EIGHT, EMPTY, LONG, LOOP_AND_ENDS, ROUND, SMALL_WEBS, STAR, alike, ladder, plain_is_mating,
    plain_is_painting, plain_matings, plain_paintings, random_mating,
)
from tiewheel.webs.errors import NoDeeds, NoLabels, NoMating, NoNumber, NoPainting, NoText, NoWeb
from tiewheel.words.texts import (
    deeds_text, labels_text, line_text, mating_text, painting_text, read_deeds, read_labels, read_mating, read_painting,
    read_web, web_text,
)

WEBS = SMALL_WEBS + MIDDLE_WEBS + BIG_WEBS
NO_TEXTS = [thing for thing in ANYTHING if not isinstance(thing, str)]


def near_texts(text, chance, many=60):
    """Texts much like one: signs left out, put in, turned about, and words of them."""
    signs = "0123456789 -:;\nabx"
    told = [text + " ", " " + text, text + "\n", text.replace(" ", "  ", 1), text.replace(" ", "", 1), "", " ", text + " 0",
            text.upper(), text.replace("-", " ", 1), text.replace("0", "00", 1), text.replace("1", "01", 1), text + "-", "-" + text,
            text.replace("0", "+0", 1), "0" + text, text.replace(" ", "\t", 1)]
    for _ in range(many):
        at = chance.randrange(len(text) + 1)
        told.append(text[:at] + text[at + 1:])
        told.append(text[:at] + chance.choice(signs) + text[at:])
        told.append(text[:at] + chance.choice(signs) + text[at + 1:])
        told.append(text[:at])
        parts = text.split(" ")
        one, other = chance.randrange(len(parts)), chance.randrange(len(parts))
        parts[one], parts[other] = parts[other], parts[one]
        told.append(" ".join(parts))
        told.append(" ".join(parts[:one] + parts[one + 1:]))
        told.append(" ".join(parts[:one] + [parts[other]] + parts[one:]))
    return told


class TestTexts(unittest.TestCase):
    def refused(self, number, ask, *things):
        with self.assertRaises(NoText, msg=things[-1:]) as caught:
            ask(*things)
        self.assertEqual(repr(caught.exception.at), repr(number), things[-1:])


class TestWebs(TestTexts):
    def test_by_hand(self):
        self.assertEqual(web_text(EMPTY), "0 :")
        self.assertEqual(web_text(LOOP_AND_ENDS), "1 : 0-2 1 3")
        self.assertEqual(read_web("1 : 0-2 1 3"), LOOP_AND_ENDS)
        self.assertEqual(read_web("0 :"), EMPTY)

    def test_written_and_read_again(self):
        for web in WEBS:
            self.assertEqual(web_text(web), plain_web_text(web))
            self.assertTrue(alike(read_web(web_text(web)), web))

    def test_numbers_of_words_by_hand(self):
        for text, number in (
            ("", 0), (" ", 0), ("x", 0), ("61 :", 0), ("01 :", 0), ("00 :", 0), ("-1 :", 0), ("1\n :", 0), (" 0 :", 0), ("-", 0),
            ("0", 1), ("0 ", 1), ("0  :", 1), ("0 ;", 1), ("60", 1), ("1 :: 0 1 2 3", 1), ("1 0 1 2 3", 1), ("0:", 0),
            ("0 : ", 2), ("0 : 0", 2), ("1 :", 2), ("1 : ", 2), ("1 : 1 0 2 3", 2), ("1 : 1-2 0 3", 2), ("1 : 0-0 1 2 3", 2),
            ("1 : 0-4 1 2 3", 2), ("1 : 2-0 1 3", 2), ("1 : 0- 1 2 3", 2), ("1 : -0 1 2 3", 2), ("1 : 0-1-2 3", 2), ("1 : 00", 2),
            ("1 : 0-02 1 3", 2), ("1 : 0", 3), ("1 : 0-2 2 1 3", 3), ("1 : 0 0 1 2 3", 3), ("1 : 0-2 1", 4), ("1 : 0-2 1-2 3", 3),
            ("1 : 0-2 1-3 ", 4), ("1 : 0-2 1-3 4", 4), ("1 : 0-2 1-3\n", 3), ("1 : 0 1 2", 5), ("1 : 0 1 2 3 3", 6), ("1 : 0-2  1 3", 3),
            ("1" * 40, 0), ("1" * 41 + " :", 0), ("1 : 0-" + "1" * 40, 2), ("1 : " + "0" * 41, 2), ("2 : 0-7 1-6 2-5 3-5 4", 5),
        ):
            self.refused(number, read_web, text)
            self.assertEqual(plain_read_web(text), (None, number), text)

    def test_anything(self):
        for thing in NO_TEXTS:
            self.refused(0, read_web, thing)
        for thing in ANYTHING:
            with self.assertRaises(NoWeb):
                web_text(thing)

    def test_near_written_ones(self):
        chance = Random(3)
        right, numbers = 0, set()
        for web in WEBS:
            for text in near_texts(plain_web_text(web), chance, 30 if web[0] < 20 else 8):
                wanted, number = plain_read_web(text)
                if wanted is None:
                    self.refused(number, read_web, text)
                    numbers.add(number)
                else:
                    self.assertTrue(alike(read_web(text), wanted))
                    right += 1
        self.assertGreater(right, 100)
        self.assertGreater(len(numbers), 20)

    def test_sixty_posts_and_sixty_one(self):
        self.assertEqual(read_web(plain_web_text(LONG)), LONG)
        self.refused(0, read_web, plain_web_text(ladder(61)))


class TestRows(TestTexts):
    def test_paintings(self):
        self.assertEqual(painting_text(EMPTY, ()), "-")
        self.assertEqual(read_painting(EMPTY, "-"), ())
        chance = Random(4)
        right = 0
        for web in WEBS:
            painting = chance_painting(web, 1)
            text = painting_text(web, painting)
            self.assertEqual(text, words(painting))
            self.assertTrue(alike(read_painting(web, text), painting))
            for near in near_texts(text, chance, 10):
                told = tuple(int(part) if part.isdigit() else -1 for part in near.split(" "))
                if words(told) == near and plain_is_painting(web, told):
                    self.assertEqual(read_painting(web, near), told)
                    right += 1
                elif not (near == "-" and web == EMPTY):
                    self.refused(0, read_painting, web, near)
        self.assertGreater(right, 5)
        for web in (STAR, BOARD):
            for many in (1, 2):
                for row in combinations(range(len(web[1])), many):
                    if row not in plain_paintings(web):
                        self.refused(0, read_painting, web, words(row))
        for text in ("-", "", "1 0", "0 0", "0  1", "0 1 ", "00 1", "0,1", "0 1 2", "0 4", "0 " + "1" * 41, "-1 0"):
            self.refused(0, read_painting, STAR, text)

    def test_matings(self):
        self.assertEqual(mating_text(EMPTY, ()), "-")
        self.assertEqual(read_mating(EMPTY, "-"), ())
        for web in WEBS:
            mating = random_mating(2, web)
            self.assertEqual(mating_text(web, mating), figures(mating))
            self.assertTrue(alike(read_mating(web, figures(mating)), mating))
            for text in ("-", "", figures(mating) + "0", figures(mating)[1:], "3" * web[0], figures(mating) + " ",
                         " ".join(figures(mating)), figures(mating) + "\n", "-" + figures(mating)):
                told = tuple(int(sign) if sign.isdigit() else -1 for sign in text) if text != "-" else ()
                if not plain_is_mating(web, told) or (not told and text != "-"):
                    self.refused(0, read_mating, web, text)
        for mating in plain_matings(BOARD):
            self.assertEqual(read_mating(BOARD, mating_text(BOARD, mating)), mating)

    def test_labels(self):
        self.assertEqual(labels_text(EMPTY, ()), "-")
        self.assertEqual(read_labels(EMPTY, "-"), ())
        for web in WEBS:
            for size in range(1, 6):
                labels = chance_labels(web, size, size)
                self.assertEqual(labels_text(web, labels), plain_labels_text(labels))
                self.assertTrue(alike(read_labels(web, plain_labels_text(labels)), labels))
        for text in ("", "-", "01 10", "01 10 01 -", "01 10 01 012", "01 10 01 11", "01  10 01 10", "01 10 01 10 ", " 01 10 01 10",
                     "01 10 01 1", "01 10 01 02", "01 10 01 10 01", "0 0 0 1", "012345 012345 012345 012345", "01 10 01 1\n", "01 10 01 1-0"):
            self.refused(0, read_labels, STAR, text)
        for text in ("01", "", " ", "0"):
            self.refused(0, read_labels, EMPTY, text)
            self.refused(0, read_mating, EMPTY, text)
            self.refused(0, read_painting, EMPTY, text)

    def test_lines(self):
        self.assertEqual(line_text(STAR, (0, 1), 1), "painted 0 1")
        for web in WEBS:
            painting = chance_painting(web, 2)
            for number, line in enumerate(plain_lines(web, painting)):
                self.assertEqual(line_text(web, painting, number), plain_line_text(line))
            for number in (-1, len(plain_lines(web, painting)), None, True, "0"):
                with self.assertRaises(NoNumber) as caught:
                    line_text(web, painting, number)
                self.assertIs(caught.exception.number, number)

    def test_anything(self):
        for thing in NO_TEXTS:
            for ask in (read_painting, read_mating, read_labels):
                self.refused(0, ask, STAR, thing)
            self.refused(0, read_deeds, STAR, (0, 1), thing)

    def test_order(self):
        for ask in (painting_text, read_painting, mating_text, read_mating, labels_text, read_labels):
            with self.assertRaises(NoWeb):
                ask(None, None)
        for ask in (line_text, deeds_text, read_deeds):
            with self.assertRaises(NoWeb):
                ask(None, None, None)
            with self.assertRaises(NoPainting):
                ask(STAR, None, None)
        for ask, error in ((painting_text, NoPainting), (mating_text, NoMating), (labels_text, NoLabels)):
            for thing in ANYTHING:
                if not (thing == (0,) and error is NoMating):
                    with self.assertRaises(error):
                        ask(STAR, thing)


class TestDeeds(TestTexts):
    def test_by_hand(self):
        self.assertEqual(deeds_text(STAR, (0, 1), ()), "none")
        row = (("bare",), ("turn", (2,)), ("flip", (2,), ()), ("flip", (2,), (0, 1)))
        self.assertEqual(deeds_text(STAR, (0, 1), row), "bare ; turn 2 ; flip 2 - ; flip 2 0 1")
        self.assertEqual(read_deeds(STAR, (0, 1), "bare ; turn 2 ; flip 2 - ; flip 2 0 1"), row)
        self.assertEqual(read_deeds(EMPTY, (), "turn - ; flip - - ; bare"), (("turn", ()), ("flip", (), ()), ("bare",)))
        self.assertEqual(deeds_text(EMPTY, (), (("turn", ()), ("flip", (), ()))), "turn - ; flip - -")
        self.assertEqual(read_deeds(EIGHT, (0,), "none"), ())

    def rows(self):
        chance = Random(5)
        for web in SMALL_WEBS + MIDDLE_WEBS[:5] + [LONG, ROUND]:
            painting = chance_painting(web, 1)
            row, here = [], painting
            for _ in range(chance.randint(0, 4)):
                row.append(chance_keeping_deed(web, here, chance))
                here = plain_behind(web, here, row[-1])
            yield web, painting, tuple(row)

    def test_written_and_read_again(self):
        for web, painting, row in self.rows():
            text = deeds_text(web, painting, row)
            self.assertEqual(text, plain_deeds_text(row))
            self.assertTrue(alike(read_deeds(web, painting, text), row))
        for web, painting, mating in small_samples(2, 3):
            # Flips of loud clusters, too.
            many = len(plain_clusters(web, painting, mating))
            row = (("flip", mating, tuple(range(many))),)
            self.assertEqual(read_deeds(web, painting, deeds_text(web, painting, row)), row)

    def test_near_written_ones(self):
        chance = Random(6)
        numbers, right = set(), 0
        for web, painting, row in self.rows():
            if web[0] > 4:
                continue
            candidates = [("bare",)] + [("turn", mating) for mating in plain_matings(web)]
            candidates += [("flip", mating, flips) for mating in plain_matings(web)
                           for many in range(4) for flips in combinations(range(5), many)][:3000]
            for text in near_texts(plain_deeds_text(row), chance, 4):
                wanted, number = plain_read_deeds(web, painting, text, candidates)
                if wanted is None:
                    self.refused(number, read_deeds, web, painting, text)
                    numbers.add(number)
                else:
                    self.assertEqual(read_deeds(web, painting, text), wanted)
                    right += 1
        self.assertTrue({0, 1, 2, 3} <= numbers, numbers)
        self.assertGreater(right, 10)

    def test_numbers_by_hand(self):
        for text, number in (
            ("", 0), (" ", 0), ("-", 0), ("Bare", 0), ("bare ", 0), (" bare", 0), ("none ", 0), ("none ; bare", 0), ("bare ; none", 1),
            ("bare ; ", 1), ("bare ;", 0), (" ; bare", 0), ("bare ;  ; bare", 1), ("bare;bare", 0), ("bare ;; bare", 0), ("turn", 0),
            ("turn ", 0), ("turn 3", 0), ("turn 22", 0), ("turn 2 ", 0), ("turn  2", 0), ("turn 2 0", 0), ("turn -", 0), ("flip 2", 0),
            ("flip 2 ", 0), ("flip 2 2", 0), ("flip 2 1 0", 0), ("flip 2 0 0", 0), ("flip 2 0 -", 0), ("flip 2 00", 0), ("flip - 0", 0),
            ("bare ; turn 2 ; flip 2 0 1 2", 2), ("bare ; bare ; bare ; turn", 3), ("bare\n", 0), ("bare 0", 0), ("bare ; bare ;bare", 1),
        ):
            self.refused(number, read_deeds, STAR, (0, 1), text)

    def test_of_the_painting_that_it_meets(self):
        met = 0
        for web, painting, mating in small_samples(2, 6):
            many = len(plain_clusters(web, painting, mating))
            flip = ("flip", mating, tuple(range(many)))
            other = ("turn", tuple((at + 1) % 3 for at in mating))
            then = plain_behind(web, painting, other)
            if len(plain_clusters(web, then, mating)) < many:
                self.refused(1, read_deeds, web, painting, plain_deeds_text((other, flip)))
                self.assertEqual(read_deeds(web, painting, plain_deeds_text((flip,))), (flip,))
                met += 1
        self.assertGreater(met, 3)

    def test_more_than_sixty(self):
        row = (("bare",),) * 60
        self.assertEqual(read_deeds(STAR, (0, 1), plain_deeds_text(row)), row)
        for text in (plain_deeds_text(row * 2), " ; ".join(["bare"] * 61), " ; ".join(["x"] * 61), " ; ".join(["bare"] * 60 + ["x"])):
            self.refused(0, read_deeds, STAR, (0, 1), text)
        self.refused(59, read_deeds, STAR, (0, 1), " ; ".join(["bare"] * 59 + ["x"]))

    def test_no_deeds(self):
        for thing in ANYTHING + [(("bare",),) * 61, (("bare",), None), (("turn", (0, 0)),)]:
            if not plain_are_deeds(STAR, (0, 1), thing):
                with self.assertRaises(NoDeeds):
                    deeds_text(STAR, (0, 1), thing)


if __name__ == "__main__":
    unittest.main()
