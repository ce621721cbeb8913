"""[2]: the whole: whatever is done and taken back, the keeper tells what the lines now say themselves."""

import unittest
from random import Random

from plain_deeds import MIDDLE_WEBS, chance_keeping_deed, chance_painting, is_tie, near_own, plain_behind, plain_lines, plain_track
from plain_joins import alike_pairs
from plain_products import chance_labels
from plain_shapes import plain_shape
from support import BIG_WEBS, EMPTY, SMALL_WEBS, board, plain_own, random_mating
from tiewheel.clusters.flips import flips_to, is_still, turned
from tiewheel.counts.near import near_at, many_near
from tiewheel.counts.tables import account_of, table_of, table_over
from tiewheel.heirs.deeds import behind
from tiewheel.heirs.heirs import heirs
from tiewheel.heirs.kept import kept
from tiewheel.joins.joins import beside, joined, opened, opened_painting, sewn, sewn_labels, sewn_painting
from tiewheel.joins.laid import laid, rings_made, tied_through
from tiewheel.keeper.keeper import Keeper
from tiewheel.led.led import led_to, shows_led
from tiewheel.lines.lines import lines_of
from tiewheel.lines.ties import tied, ties_of
from tiewheel.made.shapes import made_labels, made_matings, made_painting, made_web
from tiewheel.matings.strands import over
from tiewheel.paintings.paintings import own_mating
from tiewheel.products.carried import carried
from tiewheel.products.labels import bar_of, line_product
from tiewheel.products.perms import cycles, inverse
from tiewheel.two.bridge import bridge
from tiewheel.webs.parts import part_ways, part_web, parts_of
from tiewheel.wheels.again import painting_behind, round_of
from tiewheel.wheels.far import beats_of, products_behind, ties_behind
from tiewheel.wheels.wheels import rims_of
from tiewheel.words.desk import Desk
from tiewheel.words.texts import deeds_text, labels_text, painting_text, read_deeds, web_text

SHAPES = [
    ("board", 3, 3), ("board", 7, 7), ("tube", 2, 4), ("tube", 6, 10), ("torus", 2, 4, 2), ("torus", 6, 10, 4), ("klein", 4, 6),
    ("klein", 2, 2), ("band", 3, 3), ("band", 6, 10),
]


def made(shape):
    return made_web(shape), made_painting(shape)


class TestKept(unittest.TestCase):
    def check(self, keeper, web, labels):
        """What the keeper tells is what the lines now say."""
        lines, now = lines_of(web, keeper.first()), lines_of(web, keeper.now())
        told = keeper.heirs_now()
        self.assertEqual(sorted(number for number, _ in told), list(range(len(now))))
        gone = dict(keeper.gone_now())
        for number, ((_, row), (heir, ends)) in enumerate(zip(lines, told)):
            ring = not is_tie(web, row)
            self.assertEqual((ends == (), is_tie(web, now[heir][1])), (ring, not ring))
            self.assertEqual(keeper.first_of(heir), number)
            if not ring:
                self.assertEqual(ends, (gone[row[0]], gone[row[-1]]))
                self.assertEqual(tied(web, keeper.now(), ends[0]), ends[1])
            if labels is not None:
                product = line_product(web, keeper.now(), labels, heir)
                if ring:
                    self.assertEqual(keeper.carried_now(number), cycles(product))
                    self.assertEqual(keeper.carried_now(number), cycles(line_product(web, keeper.first(), labels, number)))
                else:
                    self.assertEqual(keeper.carried_now(number), product if now[heir][1][0] == ends[0] else inverse(product))
        rings = len([ends for _, ends in told if not ends])
        self.assertEqual(str(keeper), f"{len(keeper)} deeds, {rings} rings, {len(told) - rings} ties")
        self.assertEqual(account_of(web, keeper.now())[2], rings)

    def deeds(self, web, painting, chance, matings, many):
        """Turns and flips by these matings, by near ones and by chance ones."""
        here, row = painting, []
        for _ in range(many):
            if chance.random() < 0.6:
                deed = ("turn", chance.choice(matings))
            else:
                deed = chance_keeping_deed(web, here, chance)
            row.append(deed)
            here = plain_behind(web, here, deed)
        return tuple(row)

    def test_made_webs(self):
        for seed, shape in enumerate(SHAPES):
            web, painting = made(shape)
            chance = Random(seed)
            labels = None
            if shape[0] not in ("board",):
                labels = made_labels(shape, size=5, across=2, down=3 if shape[0] in ("torus", "klein") else 0)
            keeper = Keeper(web, painting, labels=labels)
            for _ in range(6 if web[0] < 30 else 3):
                (deed,) = self.deeds(web, keeper.now(), chance, made_matings(shape), 1)
                if labels is None or deed[0] == "bare" or bar_of(web, deed[1], labels) is None:
                    keeper.do(deed)
            self.check(keeper, web, labels)
            keeper.back(many=len(keeper) // 2)
            self.check(keeper, web, labels)
            keeper.again()
            self.check(keeper, web, labels)

    def test_any_webs(self):
        for seed, web in enumerate(SMALL_WEBS + MIDDLE_WEBS + BIG_WEBS[:4] + [EMPTY]):
            painting, chance = chance_painting(web, seed), Random(seed)
            row = self.deeds(web, painting, chance, [random_mating(1, web), near_own(web, painting, 1)], 4 if web[0] < 20 else 2)
            keeper = Keeper(web, painting)
            self.assertEqual(keeper.do_all(row), len(row))
            self.check(keeper, web, None)
            keeper.back(many=2)
            self.check(keeper, web, None)
            keeper.again(many=2)
            self.check(keeper, web, None)
            self.assertEqual(keeper.log(), row)

    def test_through_the_same_corners(self):
        for seed, web in enumerate(SMALL_WEBS + MIDDLE_WEBS[:6]):
            painting, mating = chance_painting(web, seed), random_mating(seed, web)
            for deed in [("turn", mating)] + [("flip", mating, (at,)) for at in range(4)]:
                try:
                    told = heirs(web, painting, deed)
                except (ValueError, RuntimeError):
                    continue
                then = behind(web, painting, deed)
                now = plain_lines(web, then)
                for (_, row), (number, _) in zip(plain_lines(web, painting), told):
                    self.assertEqual(plain_track(web, painting, mating, row), plain_track(web, then, mating, now[number][1]))
                self.assertEqual(kept(web, painting, then, mating, exchanged=deed[0] == "turn"), ("kept", told))

    def test_products_told_by_lines_ahead_and_borders_alone(self):
        for shape in SHAPES:
            if shape[0] == "board":
                continue
            web, painting = made(shape)
            labels = made_labels(shape, size=4, across=1, down=2 if shape[0] in ("torus", "klein") else 0)
            for mating in made_matings(shape):
                deed = ("turn", mating)
                lines = lines_of(web, behind(web, painting, deed))
                told = carried(web, painting, labels, deed)
                for (number, ends), part in zip(heirs(web, painting, deed), told):
                    product = line_product(web, behind(web, painting, deed), labels, number)
                    self.assertEqual(part, product if ends else cycles(product))
                    self.assertEqual(is_tie(web, lines[number][1]), ends != ())


class TestWheels(unittest.TestCase):
    def test_ties_of_the_painting_that_turns_by_a_keeper_make(self):
        for shape in SHAPES:
            if shape[0] not in ("board", "tube", "torus"):
                continue
            web, painting = made(shape)
            first, second = made_matings(shape)
            labels = None if shape[0] == "board" else made_labels(shape, size=3, across=1, down=0)
            keeper = Keeper(web, painting, labels=labels)
            for turns in range(5):
                ties = ties_behind(web, first, second, painting, turns)
                self.assertEqual(tuple((one, other) for kind, one, other in ties if kind == "painted"),
                                 ties_of(web, keeper.now(), kind="painted"))
                self.assertEqual(tuple((one, other) for kind, one, other in ties if kind == "bare"),
                                 ties_of(web, keeper.now(), kind="bare"))
                if labels is not None:
                    rows = {(kind, row[0]): number for number, (kind, row) in enumerate(lines_of(web, keeper.now()))}
                    told = tuple(line_product(web, keeper.now(), labels, rows[(kind, one)]) for kind, one, _ in ties)
                    self.assertEqual(products_behind(web, first, second, painting, labels, turns), told)
                self.assertEqual(painting_behind(web, first, second, painting, turns), keeper.now())
                keeper.turn((first, second)[turns % 2])
            self.assertEqual(round_of(web, first, second, painting) % beats_of(web, first, second, painting), 0)
            for rim in rims_of(web, first, second):
                self.assertEqual(over(web, first, rim[0]), rim[1])

    def test_as_many_paintings_as_have_the_ties_gone_over(self):
        for shape in (("board", 3, 3), ("board", 4, 4), ("tube", 2, 4), ("tube", 4, 4), ("torus", 2, 4, 2)):
            web, painting = made(shape)
            ends = tuple(way[0] for at, way in enumerate(web[1]) if len(way) == 1 and at in painting)
            table = table_of(web, ends=ends)
            for mating in made_matings(shape):
                self.assertEqual(table_over(web, mating, table), table)

    def test_still_by_its_own_mating(self):
        for shape in SHAPES:
            web, painting = made(shape)
            self.assertTrue(is_still(web, painting, own_mating(web, painting)))
            self.assertEqual(own_mating(web, painting), plain_own(plain_shape(shape), painting))


class TestBetween(unittest.TestCase):
    def test_one_row_of_flips_between_any_two(self):
        for web in SMALL_WEBS + MIDDLE_WEBS + BIG_WEBS[:3]:
            for seed in range(2):
                one, other = chance_painting(web, seed), chance_painting(web, seed + 3)
                deed = bridge(web, one, other)
                self.assertEqual(behind(web, one, deed), other)
                self.assertEqual(flips_to(web, one, deed[1], other), deed[2])
                self.assertEqual(behind(web, other, deed), one)

    def test_a_row_of_deeds_that_keep_or_a_lot_that_none_leaves(self):
        for seed, web in enumerate(SMALL_WEBS[:20]):
            one, other = chance_painting(web, seed), chance_painting(web, seed + 1)
            means = tuple(sorted({random_mating(seed, web), plain_own(web, one)}))
            told = led_to(web, means, one, other, most=400)
            self.assertTrue(shows_led(web, means, one, other, told))
            if told[0] == "row":
                keeper = Keeper(web, one)
                keeper.do_all(told[1])
                self.assertEqual(keeper.now(), other)
                # Turned about it leads each line back to itself.
                keeper.do_all(told[1][::-1])
                self.assertEqual([number for number, _ in keeper.heirs_now()], list(range(len(lines_of(web, one)))))
                self.assertTrue(all(end == to for end, to in keeper.gone_now()))

    def test_near_ones_turn_as_the_one_does(self):
        for web in SMALL_WEBS + MIDDLE_WEBS[:5]:
            painting, mating = chance_painting(web, 1), random_mating(2, web)
            many = many_near(web, painting, mating)
            for number in {0, many // 2, many - 1}:
                other = near_at(web, painting, mating, number)
                flips = flips_to(web, painting, mating, other)
                there = turned(web, other, mating)
                self.assertEqual(behind(web, turned(web, painting, mating), ("flip", mating, flips)), there)


class TestJoined(unittest.TestCase):
    def test_by_any_road_the_same_web_and_lines(self):
        for seed, web in enumerate([board(2, 3), board(3, 3), board(2, 5)] + MIDDLE_WEBS[3:]):
            painting = chance_painting(web, seed)
            pairs = alike_pairs(web, painting, seed)
            whole, then = sewn(web, pairs), sewn_painting(web, painting, pairs)
            labels = chance_labels(web, 3, seed)
            carried_whole = sewn_labels(web, labels, pairs)
            step, here, gone = web, painting, labels
            for pair in pairs[::-1]:
                here, gone = sewn_painting(step, here, (pair,)), sewn_labels(step, gone, (pair,))
                step = sewn(step, (pair,))
            self.assertEqual((step, here, gone), (whole, then, carried_whole))
            # The whole's lines come of the parts'.
            own = own_mating(web, painting)
            rows = laid(web, own, pairs)
            self.assertEqual([(row[0], row[-1]) for word, row in rows if word == "border"],
                             sorted((row[0], row[-1]) for word, row in rows if word == "border"))
            self.assertEqual(ties_of(whole, then), tuple((row[0], row[-1]) for word, row in rows if word == "border"))
            rings = len(lines_of(web, painting)) - len(ties_of(web, painting))
            self.assertEqual(len(lines_of(whole, then)) - len(ties_of(whole, then)), rings + rings_made(web, painting, pairs))
            for one, other in ties_of(whole, then):
                self.assertEqual((tied_through(web, painting, pairs, one), tied_through(web, painting, pairs, other)), (other, one))

    def test_beside_and_joined(self):
        one, other = board(2, 2), board(1, 3)
        joints = ((0, 0), (4, 4), (10, 2), (14, 9))
        whole = joined(one, other, joints)
        self.assertEqual(whole, sewn(beside(one, other), tuple((end, further + 16) for end, further in joints)))
        self.assertEqual(opened(whole, tuple(at for at, way in enumerate(whole[1]) if len(way) == 2 and way[0] < 16 <= way[1])),
                         beside(one, other))
        for seed in range(5):
            painting = chance_painting(whole, seed)
            ways = tuple(at for at, way in enumerate(whole[1]) if len(way) == 2 and way[0] < 16 <= way[1])
            apart = opened_painting(whole, painting, ways)
            both = beside(one, other)
            self.assertEqual(sewn_painting(both, apart, tuple(whole[1][at] for at in ways)), painting)
            lots = parts_of(both)
            self.assertEqual(len(lots), 2)
            parts = [part_web(both, number) for number in range(2)]
            self.assertEqual(parts, [one, other])
            told = 0
            for number in range(2):
                ways_there = part_ways(both, number)
                part = tuple(at for at, way in enumerate(ways_there) if way in apart)
                told += len(lines_of(parts[number], part))
            self.assertEqual(told, len(lines_of(both, apart)))


class TestDesk(unittest.TestCase):
    def test_all_of_it_by_texts(self):
        for seed, shape in enumerate(SHAPES):
            web, painting = made(shape)
            desk = Desk()
            desk.say("web " + web_text(web))
            desk.say("paint " + painting_text(web, painting))
            row = TestKept().deeds(web, painting, Random(seed), made_matings(shape), 4)
            desk.say("all " + deeds_text(web, painting, row))
            keeper = Keeper(web, painting)
            keeper.do_all(row)
            self.assertTrue(desk.keeper_now() == keeper)
            self.assertEqual(read_deeds(web, painting, desk.say("log")), row)
            if shape[0] in ("tube", "torus"):
                labels = made_labels(shape, size=3, across=2, down=0)
                desk.say("label " + labels_text(web, labels))
                for mating in made_matings(shape):
                    desk.say("turn " + "".join(map(str, mating)))
                first = Keeper(web, keeper.now(), labels=labels)
                first.do_all(tuple(("turn", mating) for mating in made_matings(shape)))
                self.assertTrue(desk.keeper_now() == first)
                for number in range(len(first.heirs_now())):
                    told = "".join(map(str, first.carried_now(number))) if first.heir(number)[1] else \
                        " ".join(map(str, first.carried_now(number)))
                    self.assertEqual(desk.say(f"product {number}"), told)


if __name__ == "__main__":
    unittest.main()
