"""[42]: a desk: its words, its answers, what it refuses, what it counts."""

import unittest
from random import Random

from plain_counts import plain_account
from plain_deeds import (
    MIDDLE_WEBS, chance_keeping_deed, chance_painting, is_tie, near_own, plain_behind, plain_clusters, plain_lines, plain_loud,
)
from plain_joins import alike_pairs, chance_pairs, plain_moved, plain_opened, plain_opened_labels, plain_sewn, plain_sewn_labels
from plain_led import plain_heirs_along, plain_met
from plain_products import chance_labels, plain_third
from plain_shapes import plain_bar, plain_made_matings, plain_made_painting, plain_shape, plain_turns, chance_wheels
from plain_texts import (
    figures, plain_deed_text, plain_deeds_text, plain_labels_text, plain_line_text, plain_pairs_text, plain_web_text, words,
)
from support import (
    ANYTHING, BOARD, EIGHT, EMPTY, LONG, LOOP_AND_ENDS, SMALL_WEBS, STAR, board, plain_ends, plain_matings, plain_own,
    plain_paintings, random_mating, spoiled,
)
from tiewheel.clusters.flips import flips_to
from tiewheel.keeper.keeper import Keeper
from tiewheel.products.labels import pinned
from tiewheel.webs.errors import (
    Loud, NoBack, NoEnds, NoFlips, NoJoin, NoLabels, NoLine, NoNumber, NoText, NoWheel,
)
from tiewheel.words.desk import Desk

WEBS = SMALL_WEBS[:20] + MIDDLE_WEBS[:3]
STAR_LINE = "web 1 : 0 1 2 3"
WANTS = {
    "web": "many", "sew": "many", "open": "many", "paint": "many", "label": "many", "turn": 1, "flip": "more", "bare": 0,
    "all": "many", "back": 1, "again": 1, "now": 0, "log": 0, "lines": 0, "heir": 1, "product": 1, "ties": 1, "rings": 0,
    "clusters": 1, "over": "many", "wheel": 2, "far": 3,
}


def told_web(web):
    return f"{web[0]} posts, {len(web[1])} ways, {len(plain_ends(web))} ends"


def told_keeper(web, painting, many):
    painted, bare, rings = plain_account(web, painting)
    return f"{many} deeds, {rings} rings, {len(painted) + len(bare)} ties"


def desk_with(web, painting=None, labels=None):
    desk = Desk()
    desk.say("web " + plain_web_text(web))
    if painting is not None:
        desk.say("paint " + words(painting))
    if labels is not None:
        desk.say("label " + plain_labels_text(labels))
    return desk


class TestAnswers(unittest.TestCase):
    def test_by_hand(self):
        desk = Desk()
        for line, answer in (
            ("web 2 : 0 1 2-4 3-5 6 7", "2 posts, 6 ways, 4 ends"), ("wheel 02 20", "barred 0 1"), ("wheel 00 00", "wheel"),
            ("open 2", "2 posts, 7 ways, 6 ends"), ("sew 2-4", "2 posts, 6 ways, 4 ends"), ("sew -", "2 posts, 6 ways, 4 ends"),
            ("paint 0 2 4", "0 deeds, 0 rings, 2 ties"), ("now", "0 2 4"), ("log", "none"),
            ("lines", "bare 1 3 5 7 | painted 0 2 4 6"), ("ties both", "0-6 1-7"), ("ties painted", "0-6"), ("ties bare", "1-7"),
            ("rings", "0 0"), ("clusters 02", "quiet 0 | quiet 1"), ("flip 02 0", "1 deeds, 0 rings, 2 ties"), ("now", "1 2 4"),
            ("heir 0", "0 0 7"), ("heir 1", "1 1 6"), ("turn 00", "2 deeds, 0 rings, 2 ties"), ("log", "flip 02 0 ; turn 00"),
            ("back 1", "1 deeds, 0 rings, 2 ties"), ("again 1", "2 deeds, 0 rings, 2 ties"), ("back 0", "2 deeds, 0 rings, 2 ties"),
            ("bare", "3 deeds, 0 rings, 2 ties"), ("all bare ; turn 12", "5 deeds, 0 rings, 2 ties"), ("all none", "5 deeds, 0 rings, 2 ties"),
            ("flip 00 -", "6 deeds, 0 rings, 2 ties"), ("over 0 1 4 5", "flip 21 0"),
            ("label 01 10 10 01 10 01", "0 deeds, 0 rings, 2 ties"), ("log", "none"), (STAR_LINE, "1 posts, 4 ways, 4 ends"),
            ("paint 0 1", "0 deeds, 0 rings, 2 ties"), ("label 120 012 021 021", "0 deeds, 0 rings, 2 ties"), ("product 0", "012"),
            ("product 1", "120"), ("flip 1 0", "1 deeds, 0 rings, 2 ties"), ("heir 1", "1 3 1"), ("product 1", "021"),
            ("web 1 : 0-1 2-3", "1 posts, 2 ways, 0 ends"), ("paint 0", "0 deeds, 2 rings, 0 ties"), ("rings", "1 1"),
            ("ties both", "none"), ("heir 0", "0"), ("label 021 102", "0 deeds, 2 rings, 0 ties"), ("product 1", "1 2"),
            ("far 0 0 7", "none"), ("web 0 :", "0 posts, 0 ways, 0 ends"), ("paint -", "0 deeds, 0 rings, 0 ties"), ("lines", "none"),
            ("clusters -", "none"), ("now", "-"), ("turn -", "1 deeds, 0 rings, 0 ties"), ("flip - -", "2 deeds, 0 rings, 0 ties"),
            ("over -", "flip - -"), ("log", "turn - ; flip - -"), ("label -", "0 deeds, 0 rings, 0 ties"), ("open -", "0 posts, 0 ways, 0 ends"),
            ("wheel - -", "wheel"), ("far - - 0", "none"), ("web 1 : 0 1 2 3", "1 posts, 4 ways, 4 ends"),
            ("paint 0 3", "0 deeds, 0 rings, 2 ties"), ("far 0 2 1" + "0" * 30, "bare 1-2 | painted 0-3"),
        ):
            self.assertEqual(desk.say(line), answer, line)
        self.assertEqual(desk.counts(), (len(desk), 0))

    def test_what_is_asked_of_a_painting(self):
        for seed, web in enumerate(WEBS):
            painting = chance_painting(web, seed)
            desk = desk_with(web, painting)
            lines = plain_lines(web, painting)
            painted, bare, _ = plain_account(web, painting)
            self.assertEqual(desk.say("now"), words(painting))
            self.assertEqual(desk.say("lines"), " | ".join(map(plain_line_text, lines)) or "none")
            for kind, pairs in (("painted", painted), ("bare", bare), ("both", sorted(painted + bare))):
                self.assertEqual(desk.say("ties " + kind), plain_pairs_text(pairs) if pairs else "none")
            rings = [len([row for kind, row in lines if kind == wanted and not is_tie(web, row)]) for wanted in ("painted", "bare")]
            self.assertEqual(desk.say("rings"), words(rings))
            mating = random_mating(seed, web)
            lots = plain_clusters(web, painting, mating)
            self.assertEqual(desk.say("clusters " + figures(mating)), " | ".join(f"{word} {words(lot)}" for word, lot in lots) or "none")
            other = chance_painting(web, seed + 1)
            third = plain_third(web, painting, other)
            self.assertEqual(desk.say("over " + words(other)), f"flip {figures(third)} {words(flips_to(web, painting, third, other))}")
            self.assertEqual(desk.say("now"), words(painting))

    def test_deeds_taken_back_and_done_again(self):
        for seed, web in enumerate(WEBS * 2):
            chance = Random(seed)
            painting = chance_painting(web, seed)
            desk, deeds, here = desk_with(web, painting), [], painting
            for _ in range(6):
                deed = chance_keeping_deed(web, here, chance)
                line = plain_deed_text(deed) if chance.random() < 0.7 else "all " + plain_deed_text(deed)
                deeds.append(deed)
                here = plain_behind(web, here, deed)
                self.assertEqual(desk.say(line), told_keeper(web, painting, len(deeds)))
            self.assertEqual(desk.say("log"), plain_deeds_text(deeds))
            for number, (heir, ends) in enumerate(plain_heirs_along(web, painting, deeds)):
                self.assertEqual(desk.say(f"heir {number}"), words((heir,) + ends))
            self.assertEqual(desk.say("back 4"), told_keeper(web, painting, 2))
            self.assertEqual(desk.say("now"), words(plain_met(web, painting, deeds)[2]))
            self.assertEqual(desk.say("again 3"), told_keeper(web, painting, 5))
            self.assertEqual(desk.say("all " + plain_deeds_text(deeds[5:])), told_keeper(web, painting, 6))
            self.assertEqual(desk.say("back 6"), told_keeper(web, painting, 0))
            self.assertEqual(desk.say("all " + plain_deeds_text(deeds)), told_keeper(web, painting, 6))
            keeper = Keeper(web, painting)
            keeper.do_all(tuple(deeds))
            self.assertTrue(desk.keeper_now() == keeper)

    def test_labels_and_products(self):
        for seed, web in enumerate(WEBS):
            painting = chance_painting(web, seed)
            labels = pinned(web, chance_labels((web[0], ((),) * web[0]), 3, seed))
            labels = tuple(chance_labels(web, 3, 9)[at] if len(way) == 1 else labels[at] for at, way in enumerate(web[1]))
            desk = desk_with(web, painting)
            desk.say("bare")
            now = plain_met(web, painting, [("bare",)])[-1]
            self.assertEqual(desk.say("label " + plain_labels_text(labels)), told_keeper(web, now, 0))
            self.assertEqual((desk.say("now"), desk.say("log")), (words(now), "none"))
            keeper = Keeper(web, now, labels=labels)
            mating = near_own(web, now, seed)
            desk.say("turn " + figures(mating))
            keeper.turn(mating)
            for number, (_, ends) in enumerate(keeper.heirs_now()):
                told = keeper.carried_now(number)
                self.assertEqual(desk.say(f"product {number}"), figures(told) if ends else words(told))
            self.assertTrue(desk.keeper_now() == keeper)
            # Painted anew, it has none.
            desk.say("paint " + words(now))
            with self.assertRaises(NoLabels):
                desk.say("product 0")

    def test_sew_and_open(self):
        for seed, web in enumerate(WEBS):
            painting = chance_painting(web, seed)
            labels = chance_labels(web, 3, seed)
            pairs, free = alike_pairs(web, painting, seed), chance_pairs(web, seed)
            ways = tuple(at for at, way in enumerate(web[1]) if len(way) == 2)[::2]
            desk = desk_with(web)
            self.assertEqual(desk.say("sew " + plain_pairs_text(free)), told_web(plain_sewn(web, free)))
            self.assertEqual((desk.web_now(), desk.keeper_now()), (plain_sewn(web, free), None))
            desk = desk_with(web)
            self.assertEqual(desk.say("open " + words(ways)), told_web(plain_opened(web, ways)))
            self.assertEqual((desk.web_now(), desk.keeper_now()), (plain_opened(web, ways), None))
            for there, line, carried in ((plain_sewn(web, pairs), "sew " + plain_pairs_text(pairs), plain_sewn_labels(web, labels, pairs)),
                                         (plain_opened(web, ways), "open " + words(ways), plain_opened_labels(web, labels, ways))):
                then = plain_moved(web, there, painting)
                for told, wanted in ((None, None), (labels, carried)):
                    desk = desk_with(web, painting, told)
                    self.assertEqual(desk.say(line), told_web(there))
                    self.assertEqual(desk.web_now(), there)
                    self.assertTrue(desk.keeper_now() == Keeper(there, then, labels=wanted))
                # Of the painting now, and no deed stands or is ready.
                desk = desk_with(web, painting)
                desk.say("all bare ; bare ; bare")
                desk.say("back 1")
                self.assertEqual(desk.say(line), told_web(there))
                self.assertTrue(desk.keeper_now() == Keeper(there, then))
                with self.assertRaises(NoBack):
                    desk.say("again 1")

    def test_wheels(self):
        for web, first, second in chance_wheels(20) + [(BOARD, (0, 1, 1, 0), (2, 2, 2, 2)), (LONG, (2,) * 60, (0,) * 60)]:
            bar = plain_bar(web, first, second)
            desk = desk_with(web)
            wanted = "wheel" if bar is None else "barred " + words(bar)
            self.assertEqual(desk.say(f"wheel {figures(first)} {figures(second)}"), wanted)
        for shape in (("board", 3, 3), ("tube", 2, 4), ("board", 5, 5), ("torus", 2, 2, 0)):
            web, (first, second), painting = plain_shape(shape), plain_made_matings(shape), plain_made_painting(shape)
            desk = desk_with(web, painting)
            for turns in range(6):
                then = plain_turns(web, first, second, painting, turns)
                ties = sorted((kind, row[0], row[-1]) for kind, row in plain_lines(web, then) if is_tie(web, row))
                wanted = " | ".join(f"{kind} {one}-{other}" for kind, one, other in ties) or "none"
                self.assertEqual(desk.say(f"far {figures(first)} {figures(second)} {turns}"), wanted)

    def test_large_webs(self):
        for web in (LONG, board(6, 10)):
            painting = chance_painting(web, 1)
            desk = desk_with(web, painting)
            self.assertEqual(desk.say("turn " + "2" * 60), told_keeper(web, painting, 1))
            self.assertEqual(desk.say("lines").count("|") + 1, len(plain_lines(web, painting)))


class TestRefusals(unittest.TestCase):
    def refuses(self, desk, error, line, at=None):
        before = (desk.web_now(), desk.keeper_now(), desk.counts())
        with self.assertRaises(error, msg=line) as caught:
            desk.say(line)
        self.assertIs(caught.exception.__class__, error, line)
        if error is NoText:
            self.assertEqual(repr(caught.exception.at), repr(at), line)
        told, refused = before[2]
        self.assertEqual(desk.counts(), (told + 1, refused + 1))
        self.assertEqual(desk.web_now(), before[0])
        keeper = desk.keeper_now()
        self.assertEqual(keeper, before[1])
        if keeper is not None:
            self.assertEqual((keeper.now(), keeper.log()), (before[1].now(), before[1].log()))
        return caught.exception

    def test_of_anything(self):
        for desk in (Desk(), desk_with(STAR), desk_with(STAR, (0, 1))):
            for thing in ANYTHING + ["web\n1", "Web 0 :", " now", "now\n", "0", "webs 0 :", "lines ", "now now"]:
                self.refuses(desk, NoLine, thing)

    def test_how_many_words(self):
        for word, wanted in WANTS.items():
            desk = desk_with(STAR, (0, 1))
            for many in range(5):
                fits = many == wanted if isinstance(wanted, int) else many > (wanted == "more")
                for part in ("x", ""):
                    line = " ".join([word] + [part] * many)
                    if not fits:
                        self.refuses(desk, NoLine, line)
                    elif many:
                        # Empty words count, and are none of what is to be read.
                        self.refuses(desk, NoText, line, 0)
                    else:
                        desk.say(line)

    def test_without_a_web_and_without_a_keeper(self):
        lines = ["sew -", "open -", "paint -", "label -", "turn -", "flip - -", "bare", "all none", "back 0", "again 0", "now", "log",
                 "lines", "heir 0", "product 0", "ties both", "rings", "clusters -", "over -", "wheel - -", "far - - 0"]
        self.assertEqual({line.split(" ")[0] for line in lines} | {"web"}, set(WANTS))
        for line in lines + [" ".join([line.split(" ")[0]] + ["x"] * (len(line.split(" ")) - 1)) for line in lines]:
            self.refuses(Desk(), NoLine, line)
        for line in lines:
            if line.split(" ")[0] in ("sew", "open", "paint", "wheel"):
                desk_with(EMPTY).say(line)
            else:
                self.refuses(desk_with(EMPTY), NoLine, line)
                self.refuses(desk_with(EMPTY), NoLine, " ".join([line.split(" ")[0]] + ["x"] * (len(line.split(" ")) - 1)))
        # A new web has no keeper.
        desk = desk_with(STAR, (0, 1))
        desk.say(STAR_LINE)
        self.refuses(desk, NoLine, "now")
        self.assertIsNone(desk.keeper_now())

    def test_no_text(self):
        desk = desk_with(STAR, (0, 1))
        for line, at in (
            ("web 1 : 0 1 2", 5), ("web 1 : 0 2", 3), ("web 61 :", 0), ("web 1", 1), ("web  1 : 0 1 2 3", 0), ("web 1 : 0 1 2 3 ", 6),
            ("sew 0", 0), ("sew 0-1 ", 0), ("sew 0-1 -", 0), ("sew 0-", 0), ("sew 00-1", 0), ("sew  0-1", 0), ("sew 0-1-2", 0),
            ("open x", 0), ("open 00", 0), ("open - 0", 0), ("open 0 -", 0), ("open " + "1" * 41, 0), ("open 0  1", 0),
            ("paint -", 0), ("paint 1 0", 0), ("paint 0", 0), ("paint 0 1 ", 0), ("label 01", 0), ("label -", 0), ("turn 3", 0),
            ("turn -", 0), ("turn 22", 0), ("flip 3 0", 0), ("flip 2 x", 0), ("flip 2 0 -", 0), ("flip 2 00", 0), ("all bare ; x", 1),
            ("all x", 0), ("all turn 2 ; bare ; flip 2 9", 2), ("back x", 0), ("back -1", 0), ("back -", 0), ("back 01", 0),
            ("back " + "9" * 41, 0), ("again 1.", 0), ("again +1", 0), ("heir x", 0), ("heir -", 0), ("product x", 0), ("ties x", 0),
            ("ties Both", 0), ("ties -", 0), ("clusters 3", 0), ("clusters 22", 0), ("over 0", 0), ("over -", 0), ("wheel 3 x", 0),
            ("wheel 0 3", 0), ("far 3 0 0", 0), ("far 0 3 0", 0), ("far 0 0 x", 0), ("far 0 0 00", 0), ("far 0 0 " + "1" * 41, 0),
        ):
            self.refuses(desk, NoText, line, at)

    def test_as_is_told_of_what_is_asked(self):
        desk = desk_with(STAR, (0, 1))
        for line, error in (
            ("sew 1-0", NoJoin), ("sew 0-0", NoJoin), ("sew 0-4", NoJoin), ("sew 2-3 0-1", NoJoin), ("sew 0-2", NoJoin), ("open 0", NoJoin),
            ("open 4", NoJoin), ("open 1 0", NoJoin), ("flip 2 2", NoFlips), ("flip 2 1 0", NoFlips), ("flip 2 0 0", NoFlips),
            ("flip 2 " + "9" * 40, NoFlips), ("back 1", NoBack), ("again 1", NoBack), ("back " + "9" * 40, NoBack), ("heir 2", NoNumber),
            ("product 0", NoLabels), ("product 9", NoLabels), ("far 0 2 1", NoEnds),
        ):
            self.refuses(desk, error, line)
        self.assertEqual(self.refuses(desk, NoBack, "back 3").many, 3)
        self.assertEqual(self.refuses(desk, NoNumber, "heir " + "9" * 40).number, int("9" * 40))
        desk.say("paint 0 3")
        self.assertEqual(self.refuses(desk, NoNumber, "far 0 2 1" + "0" * 29 + "1").number, 10 ** 30 + 1)
        desk = desk_with(LONG, chance_painting(LONG, 1))
        self.refuses(desk, NoWheel, "far " + "2" * 60 + " " + "0" * 60 + " 5")
        desk = desk_with(EIGHT, (0,))
        self.refuses(desk, NoJoin, "open 1 0")
        desk.say("label 021 012")
        self.refuses(desk, NoNumber, "product 2")
        self.refuses(desk, NoLabels, "turn 0")
        self.refuses(desk, NoLabels, "all bare ; turn 0")
        self.refuses(desk, NoLabels, "flip 0 -")

    def test_paintings_that_cannot_be_sewn(self):
        for seed in range(20):
            painting, pairs = chance_painting(BOARD, seed), chance_pairs(BOARD, seed)
            desk = desk_with(BOARD, painting)
            if plain_moved(BOARD, plain_sewn(BOARD, pairs), painting) is None:
                self.refuses(desk, NoJoin, "sew " + plain_pairs_text(pairs))
            else:
                desk.say("sew " + plain_pairs_text(pairs))

    def test_loud_ones(self):
        met = 0
        for web in WEBS:
            painting = chance_painting(web, 2)
            mating = tuple((at + 1) % 3 for at in plain_own(web, painting))
            loud = plain_loud(web, painting, mating)
            if loud:
                desk = desk_with(web, painting)
                desk.say("bare")
                desk.say("back 1")
                for line in (f"flip {figures(mating)} {words(loud)}", f"all bare ; bare ; flip {figures(mating)} {words(loud)}"):
                    self.assertEqual(self.refuses(desk, Loud, line).cluster, loud[0])
                self.assertEqual(desk.say("again 1"), told_keeper(web, painting, 1))
                met += 1
        self.assertGreater(met, 3)

    def test_the_order(self):
        # No line, no web, no keeper, no text, then what is asked.
        self.refuses(Desk(), NoLine, "paint x")
        self.refuses(desk_with(STAR), NoLine, "turn x")
        self.refuses(desk_with(STAR, (0, 1)), NoText, "flip x 9", 0)
        self.refuses(desk_with(STAR, (0, 1)), NoText, "flip 2 9 x", 0)
        self.refuses(desk_with(LOOP_AND_ENDS), NoText, "wheel 0 x", 0)


class TestCounts(unittest.TestCase):
    def test_lines_told_and_refused(self):
        desk = Desk()
        self.assertEqual((desk.counts(), len(desk)), ((0, 0), 0))
        desk.say(STAR_LINE)
        for line in ("now", None, "paint x", "x"):
            with self.assertRaises((NoLine, NoText)):
                desk.say(line)
        self.assertEqual((desk.counts(), len(desk)), ((5, 4), 5))
        desk.say("paint 0 1")
        with self.assertRaises(NoBack):
            desk.say("back 1")
        self.assertEqual((desk.counts(), len(desk)), ((7, 5), 7))

    def test_say_all(self):
        desk = Desk()
        self.assertEqual(desk.say_all(()), ())
        told = desk.say_all((STAR_LINE, "paint 0 1", "now"))
        self.assertEqual(told, ("1 posts, 4 ways, 4 ends", "0 deeds, 0 rings, 2 ties", "0 1"))
        self.assertEqual(desk.counts(), (3, 0))
        for lines, error, counts in (
            (("bare", "back 9", "bare"), NoBack, (5, 1)), (("now", 7, "bare"), NoLine, (7, 2)), (("x", "bare"), NoLine, (8, 3)),
            (("heir 7",), NoNumber, (9, 4)), (("turn 2", "all bare ; x"), NoText, (11, 5)),
        ):
            with self.assertRaises(error):
                desk.say_all(lines)
            self.assertEqual(desk.counts(), counts)
        self.assertEqual(desk.say("log"), "bare ; turn 2")
        counts = desk.counts()
        for thing in ANYTHING:
            if not isinstance(thing, tuple):
                with self.assertRaises(NoLine):
                    desk.say_all(thing)
                self.assertEqual(desk.counts(), counts)
        for thing in spoiled(("now",)):
            if isinstance(thing, tuple) and thing and thing[0] != "now":
                with self.assertRaises(NoLine):
                    desk.say_all(thing)

    def test_equal_just_with_the_same_web_and_keeper(self):
        self.assertIs(Desk() == Desk(), True)
        self.assertIs(Desk() == desk_with(STAR), False)
        self.assertIs(desk_with(STAR) == desk_with(STAR), True)
        self.assertIs(desk_with(STAR) == desk_with(EIGHT), False)
        self.assertIs(desk_with(STAR) == desk_with(STAR, (0, 1)), False)
        self.assertIs(desk_with(STAR, (0, 1)) == desk_with(STAR), False)
        self.assertIs(desk_with(STAR, (0, 1)) == desk_with(STAR, (0, 1)), True)
        self.assertIs(desk_with(STAR, (0, 1)) == desk_with(STAR, (0, 2)), False)
        one, other = desk_with(STAR, (0, 1)), desk_with(STAR, (0, 1))
        one.say("bare")
        self.assertIs(one == other, False)
        self.assertIs(one != other, True)
        # Whatever was told and refused, and what is ready.
        one.say("back 1")
        with self.assertRaises(NoLine):
            one.say("x")
        self.assertIs(one == other, True)
        for thing in ANYTHING + [Keeper(STAR, (0, 1))]:
            self.assertIs(one == thing, False)

    def test_keeper_now_is_a_twin(self):
        desk = desk_with(STAR, (0, 1))
        desk.say("bare")
        desk.say("back 1")
        keeper = desk.keeper_now()
        self.assertEqual(keeper.again(), (2, 3))
        self.assertEqual(desk.say("log"), "none")
        keeper = desk.keeper_now()
        desk.say("again 1")
        self.assertEqual((len(keeper), keeper.now(), desk.say("now")), (0, (0, 1), "2 3"))
        self.assertEqual(desk.web_now(), STAR)
        self.assertIsNone(Desk().web_now())

    def test_all_matings_of_a_board(self):
        desk = desk_with(BOARD, plain_paintings(BOARD)[3])
        for mating in plain_matings(BOARD):
            desk.say("turn " + figures(mating))
        self.assertEqual(len(desk.keeper_now()), 81)
        self.assertEqual(desk.say("log").count(" ; "), 80)
        self.assertEqual(desk.say("back 81"), "0 deeds" + desk.say("again 81")[8:])


if __name__ == "__main__":
    unittest.main()
