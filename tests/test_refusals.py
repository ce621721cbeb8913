"""[1]: of anything; the order of refusals; what they bear; nothing handed in is changed."""

import copy
import unittest
from functools import lru_cache
from itertools import combinations, permutations, product

from plain_counts import plain_is_table
from plain_deeds import plain_clusters
from plain_joins import plain_is_pairs
from plain_led import plain_are_deeds
from support import (
    ANYTHING, EMPTY, EIGHT, LOOP_AND_ENDS, alike, beside, plain_ends, plain_matings, plain_paintings, plain_strands,
    spoiled, whole_row,
)
from tiewheel.clusters import clusters, crossed, flips
from tiewheel.counts import near, tables
from tiewheel.heirs import deeds, heirs, kept, tracks
from tiewheel.joins import joins, laid
from tiewheel.led import along, led, steps
from tiewheel.lines import lines, ties
from tiewheel.made import shapes
from tiewheel.matings import matings, strands
from tiewheel.paintings import fronts, paintings, rounds
from tiewheel.products import carried, labels, perms, weights
from tiewheel.two import bridge, two
from tiewheel.webs import parts, webs
from tiewheel.webs.errors import (
    NoDeeds, NoEnds, NoFlips, NoHand, NoJoin, NoLabels, NoLine, NoMating, NoNumber, NoPainting, NoShape, NoWeb, TooWide,
    WebError,
)
from tiewheel.wheels import again, wheels
from tiewheel.words import texts

WEB = beside(LOOP_AND_ENDS, LOOP_AND_ENDS)
PAINTING = (0, 3)
MATING = (0, 2)
ENDS = plain_ends(WEB)
STRANDS = plain_strands(WEB, MATING)


def all_flips(mating):
    numbers = range(len(plain_clusters(WEB, PAINTING, mating)))
    return [row for many in range(len(numbers) + 1) for row in combinations(numbers, many)]


# For each kind: one that is right, its refusal, what that bears.
KINDS = {
    "web": (WEB, NoWeb, None),
    "mating": (MATING, NoMating, None),
    "painting": (PAINTING, NoPainting, None),
    "hand": (4, NoHand, "hand"),
    "end": (5, NoHand, "hand"),
    "post": (1, NoNumber, "number"),
    "part": (1, NoNumber, "number"),
    "strand": (2, NoNumber, "number"),
    "line": (3, NoNumber, "number"),
    "rank": (2, NoNumber, "number"),
    "couples": (((1, 7), (5, 3)), NoEnds, None),
    "ends": (None, NoEnds, None),
    "kind": ("bare", NoLine, None),
    "flips": ((0, 1), NoFlips, None),
    "deed": (("flip", MATING, (1,)), NoDeeds, None),
    "perm": ((1, 0, 2), NoLabels, None),
    "size": (3, NoNumber, "number"),
    "labels": (((0, 1),) * 6, NoLabels, None),
    "pins": (((1, 0), (0, 1)), NoLabels, None),
    "weights": ((3, -1, 0, 10, 2, 2), NoLabels, None),
    "matings": (((0, 2), (1, 1)), NoMating, None),
    "leading": ((0, 1), NoMating, None),
    "fitting": (None, NoMating, None),
    "means": (((0, 1), (2, 2)), NoMating, None),
    "most": (60, NoNumber, "number"),
    "deeds": ((("bare",), ("turn", (1, 2))), NoDeeds, None),
    "turns": (10 ** 30, NoNumber, "number"),
    "begin": (1, NoNumber, "number"),
    "beats": (1000, NoNumber, "number"),
    "rims": ((1,), NoNumber, "number"),
    "painted_ties": (((1, 3),), NoEnds, None),
    "bare_ties": (((5, 7),), NoEnds, None),
    "table": ((((((1, 3),), ((5, 7),), 2), 3),), NoEnds, None),
    "pairs": (((1, 5), (3, 7)), NoJoin, None),
    "pair": (((1, 3),), NoJoin, None),
    "openings": ((0, 3), NoJoin, None),
    "near": (1, NoNumber, "number"),
    "shape": (("klein", 2, 4), NoShape, None),
}
# What is never refused, with one that may be handed in.
FREE = {"thing": None, "exchanged": True, "with_flips": True}
# What of each kind is right besides; of some all that is.
RIGHT = {
    "web": [EMPTY, EIGHT],
    "mating": plain_matings(WEB),
    "painting": list(plain_paintings(WEB)),
    "hand": list(range(8)),
    "end": list(range(8)),
    "post": [0, 1],
    "part": [0, 1],
    "strand": list(range(len(STRANDS))),
    "line": list(range(4)),
    "rank": list(range(len(plain_paintings(WEB)))),
    "couples": [(row[:2], row[2:]) for row in permutations(ENDS)],
    "ends": [None] + [row for many in range(5) for row in combinations(ENDS, many)],
    "kind": ["painted", "bare", "both"],
    "flips": all_flips(MATING),
    "deed": [("bare",)] + [("turn", mating) for mating in plain_matings(WEB)]
            + [("flip", mating, row) for mating in plain_matings(WEB) for row in all_flips(mating)],
    "perm": list(permutations(range(3))) + [(0,), (1, 0), (0, 1)],
    "size": [1, 2, 3, 4, 5],
    "labels": list(product(permutations(range(2)), repeat=6)) + [((0,),) * 6],
    "pins": list(product(permutations(range(2)), repeat=2)) + [((0,), (0,))],
    "weights": [],
    "matings": [row for many in (1, 2) for row in product(plain_matings(WEB), repeat=many)],
    "leading": plain_matings(WEB),
    "fitting": [None] + plain_matings(WEB),
    "means": [row for many in (1, 2, 3, 4) for row in combinations(plain_matings(WEB), many)],
    "most": list(range(1, 401)),
    "deeds": [],
    "turns": [],
    "begin": [0, 1],
    "beats": list(range(1, 1001)),
    "rims": [(), (0,), (1,), (0, 1)],
    "painted_ties": [],
    "bare_ties": [],
    "table": [],
    "pairs": [],
    "pair": [],
    "openings": [(), (0,), (3,), (0, 3)],
    "near": list(range(2 ** len(plain_clusters(WEB, PAINTING, MATING)))),
    "shape": [("klein", 4, 2), ("klein", 2, 2)],
}
# Of others too much is right to be listed.
JUDGED = {
    "weights": lambda thing: whole_row(thing) and len(thing) == 6,
    "turns": lambda thing: whole_row((thing,)) and 0 <= thing <= 10 ** 30,
    "deeds": lambda thing: plain_are_deeds(WEB, PAINTING, thing),
    "table": lambda thing: plain_is_table(WEB, thing),
    "pairs": lambda thing: plain_is_pairs(WEB, thing),
    "pair": lambda thing: plain_is_pairs(WEB, thing),
    "shape": shapes.is_shape,
}

# Each function, its arguments' kinds; those that it has by name behind a "*"; "thing" is anything.
FUNCTIONS = (
    (webs.is_web, "thing"), (webs.across, "web hand"), (webs.way_of, "web hand"), (webs.ends_of, "web"),
    (webs.ways_at, "web post"), (parts.parts_of, "web"), (parts.part_web, "web part"), (parts.part_ways, "web part"),
    (matings.is_mating, "web thing"), (matings.mate, "web mating hand"), (matings.corners_of, "web mating"),
    (matings.third, "web mating mating"), (strands.strands_of, "web mating"), (strands.is_cell, "web mating strand"),
    (strands.strand_at, "web mating hand"), (strands.over, "web mating end"),
    (strands.shows_strand, "web mating thing"), (paintings.is_painting, "web thing"),
    (paintings.bared, "web painting"), (paintings.own_mating, "web painting"),
    (paintings.is_painted, "web painting hand"), (paintings.painted_ends, "web painting"),
    (paintings.owned, "web mating"), (paintings.shows_owned, "web mating thing"),
    (rounds.painted_by_couples, "web couples"), (fronts.many_paintings, "web *ends"),
    (fronts.painting_at, "web rank *ends"), (fronts.painting_number, "web painting *ends"),
    (fronts.all_paintings, "web *ends"), (fronts.painting_or_fronts, "web *ends"),
    (fronts.shows_fronts, "web thing *ends"), (lines.lines_of, "web painting"), (lines.line_at, "web painting hand"),
    (lines.ways_along, "web painting line"), (lines.is_ring, "web painting line"),
    (lines.shows_line, "web painting thing"), (lines.rings_of, "web painting *kind"),
    (ties.tied, "web painting end"), (ties.ties_of, "web painting *kind"), (ties.tie_at, "web painting end"),
    (crossed.crossed, "web painting mating"), (crossed.crossed_corners, "web painting mating strand"),
    (crossed.is_loud, "web painting mating strand"), (clusters.clusters, "web painting mating"),
    (clusters.cluster_at, "web painting mating strand"), (clusters.chain, "web painting mating strand strand"),
    (clusters.shows_chain, "web painting mating strand strand thing"),
    (flips.is_flips, "web painting mating thing"), (flips.flipped, "web painting mating flips"),
    (flips.flips_to, "web painting mating painting"), (flips.turned, "web painting mating"),
    (flips.is_still, "web painting mating"), (tracks.track_of, "web painting mating line"),
    (deeds.is_deed, "web painting thing"), (deeds.behind, "web painting deed"), (deeds.keeps, "web painting deed"),
    (heirs.heirs, "web painting deed"), (heirs.gone, "web painting deed"),
    (kept.kept, "web painting painting mating *exchanged"),
    (kept.shows_kept, "web painting painting mating thing *exchanged"),
    (perms.is_perm, "thing"), (perms.unit, "size"), (perms.then, "perm perm"), (perms.inverse, "perm"),
    (perms.cycles, "perm"), (labels.is_labels, "web thing"), (labels.along, "web labels hand"),
    (labels.strand_product, "web mating labels strand"), (labels.line_product, "web painting labels line"),
    (labels.bar_of, "web mating labels"), (labels.closed, "web mating labels"), (labels.pinned, "web pins"),
    (carried.over_product, "web mating labels end"), (carried.carried, "web painting labels deed"),
    (weights.is_weights, "web thing"), (weights.strand_sum, "web mating weights strand"),
    (weights.do_cancel, "web matings weights"), (weights.base_of, "web matings"),
    (weights.shows_base, "web matings thing"), (two.unlike_ways, "web painting painting"),
    (two.leads, "web painting painting mating"), (two.fits, "web painting painting mating"),
    (two.is_amid, "web painting painting thing"), (two.unlike_ends, "web painting painting leading"),
    (bridge.bridge, "web painting painting"), (bridge.least_fit, "web painting painting"),
    (bridge.one_by_one, "web painting painting *mating=fitting"),
    (bridge.between, "web painting painting *mating=fitting"),
    (bridge.shows_bridge, "web painting painting thing"),
    (steps.steps_of, "web means painting *flips=with_flips"),
    (steps.kin_of, "web means painting *flips=with_flips *most"),
    (led.led_to, "web means painting painting *flips=with_flips *most"),
    (led.fewest, "web means painting painting *flips=with_flips *most"),
    (led.shows_led, "web means painting painting thing *flips=with_flips"),
    (along.are_deeds, "web painting thing"), (along.done, "web painting deeds"),
    (along.all_keep, "web painting deeds"), (along.heirs_along, "web painting deeds"),
    (along.gone_along, "web painting deeds"), (wheels.barred_by, "web mating mating"),
    (wheels.is_wheel, "web mating mating"), (wheels.rims_of, "web mating mating"),
    (wheels.place_of, "web mating mating end"), (wheels.end_behind, "web mating mating end turns *begin"),
    (wheels.is_by_turns, "web mating mating painting"), (wheels.by_turns, "web mating mating *painted=rims"),
    (again.round_of, "web mating mating painting *most=beats"),
    (again.painting_behind, "web mating mating painting turns *begin *most=beats"),
    (tables.account_of, "web painting"), (tables.table_of, "web *ends"),
    (tables.many_with, "web painted_ties bare_ties *ends"), (tables.table_over, "web mating table"),
    (near.many_near, "web painting mating"), (near.near_of, "web painting mating"),
    (near.near_at, "web painting mating near"), (joins.beside, "web web"), (joins.is_pairs, "web thing"),
    (joins.sewn, "web pairs"), (joins.opened, "web openings"), (joins.sewn_painting, "web painting pairs"),
    (joins.opened_painting, "web painting openings"), (joins.sewn_labels, "web labels pairs"),
    (joins.opened_labels, "web labels openings"), (laid.laid, "web mating pairs"),
    (laid.shows_laid, "web mating pairs thing"), (laid.rings_made, "web painting pairs"),
    (laid.tied_through, "web painting pair end"), (laid.changed, "web painting mating pairs"),
    (shapes.is_shape, "thing"), (shapes.made_web, "shape"), (shapes.made_matings, "shape"),
    (shapes.made_painting, "shape"), (texts.web_text, "web"),
    (texts.painting_text, "web painting"), (texts.mating_text, "web mating"), (texts.labels_text, "web labels"),
    (texts.line_text, "web painting line"), (texts.deeds_text, "web painting deeds"),
)
JUDGES = (
    webs.is_web, matings.is_mating, strands.shows_strand, paintings.is_painting, paintings.shows_owned,
    fronts.shows_fronts, lines.shows_line, clusters.shows_chain, flips.is_flips, deeds.is_deed, kept.shows_kept,
    perms.is_perm, labels.is_labels, weights.is_weights, weights.shows_base, two.is_amid, bridge.shows_bridge,
    led.shows_led, along.are_deeds, joins.is_pairs, laid.shows_laid, shapes.is_shape,
)


def word_of(kind):
    """What is handed in: of "*name=kind", as of "*kind", the kind."""
    return kind.strip("*").rpartition("=")[2]


@lru_cache(maxsize=None)
def wrong_ones(kind):
    right = {repr(one) for one in RIGHT[kind] + [KINDS[kind][0]]}
    things = [thing for thing in ANYTHING + spoiled(KINDS[kind][0]) if repr(thing) not in right]
    return [thing for thing in things if kind not in JUDGED or not JUDGED[kind](thing)]


def ask(function, kinds, things):
    """The function asked by these things, those of a kind with a * by name."""
    placed = [thing for kind, thing in zip(kinds, things) if kind[0] != "*"]
    named = {kind.strip("*").partition("=")[0]: thing for kind, thing in zip(kinds, things) if kind[0] == "*"}
    return function(*placed, **named)


def refusal_order(function, kinds):
    """The places of what can be refused; of fronts the ends go right behind the web."""
    order = [at for at, kind in enumerate(kinds) if word_of(kind) not in FREE]
    if "*ends" in kinds:
        order = [0, kinds.index("*ends")] + [at for at in order if 0 < at < kinds.index("*ends")]
    return order


def right_things(kinds):
    words = [word_of(kind) for kind in kinds]
    return [FREE[word] if word in FREE else KINDS[word][0] for word in words]


class TestRefusals(unittest.TestCase):
    def test_what_is_right_is_not_refused(self):
        for function, text in FUNCTIONS:
            kinds = text.split()
            first = ask(function, kinds, right_things(kinds))
            self.assertTrue(alike(ask(function, kinds, right_things(kinds)), first))

    def test_each_argument_of_anything_and_in_order(self):
        for function, text in FUNCTIONS:
            kinds = text.split()
            order = refusal_order(function, kinds)
            for turn, at in enumerate(order):
                kind = word_of(kinds[at])
                _, error, bears = KINDS[kind]
                for behind in ("right", "wrong"):
                    things = right_things(kinds)
                    for later in order[turn + 1:]:
                        if behind == "wrong":
                            things[later] = ["none", 10 ** 39]
                    for thing in wrong_ones(kind):
                        things[at] = thing
                        with self.assertRaises(error, msg=f"{function.__name__} {things}") as caught:
                            ask(function, kinds, things)
                        self.assertIs(caught.exception.__class__, error)
                        if bears:
                            self.assertIs(getattr(caught.exception, bears), thing)

    def test_ends_that_are_hands_but_no_ends(self):
        for function, text in FUNCTIONS:
            kinds = text.split()
            if "end" in kinds:
                for hand in (0, 2, 4, 6):
                    things = right_things(kinds)
                    things[kinds.index("end")] = hand
                    with self.assertRaises(NoEnds):
                        ask(function, kinds, things)

    def test_judges_answer_of_anything(self):
        for function, text in FUNCTIONS:
            if function in JUDGES:
                kinds = text.split()
                for thing in ANYTHING + spoiled(PAINTING) + spoiled(MATING) + spoiled(STRANDS[0]):
                    things = right_things(kinds)
                    things[kinds.index("thing")] = thing
                    self.assertIn(ask(function, kinds, things), (True, False))
                    self.assertIsInstance(ask(function, kinds, things), bool)

    def test_nothing_handed_in_is_changed(self):
        for function, text in FUNCTIONS:
            kinds = text.split()
            for at in range(len(kinds)):
                for thing in ANYTHING:
                    things = right_things(kinds)
                    things[at] = copy.deepcopy(thing)
                    before = repr(things)
                    try:
                        ask(function, kinds, things)
                    except (WebError, NoHand, NoNumber, TooWide):
                        pass
                    self.assertEqual(repr(things), before)

    def test_rows_told_are_tuples(self):
        for function, text in FUNCTIONS:
            kinds = text.split()
            self.check_told(ask(function, kinds, right_things(kinds)))

    def check_told(self, told):
        self.assertIn(type(told), (tuple, int, str, bool, type(None)))
        if isinstance(told, tuple):
            for part in told:
                self.check_told(part)

    def test_names_are_by_name_alone(self):
        for function, text in FUNCTIONS:
            kinds = text.split()
            if kinds[-1][0] == "*":
                with self.assertRaises(TypeError):
                    function(*right_things(kinds))
                function(*[thing for kind, thing in zip(kinds, right_things(kinds)) if kind[0] != "*"])


class TestEmptyWeb(unittest.TestCase):
    """A web of no posts, with each function that can be asked of it."""

    def test_what_is_told_of_it(self):
        told = {
            webs.ends_of: (), parts.parts_of: (), fronts.many_paintings: 1, fronts.all_paintings: ((),),
            fronts.painting_or_fronts: ("painting", ()),
        }
        for function, answer in told.items():
            self.assertEqual(function(EMPTY), answer)
        for function in (paintings.bared, paintings.own_mating, paintings.painted_ends, lines.lines_of,
                         lines.rings_of, ties.ties_of, matings.corners_of, strands.strands_of,
                         rounds.painted_by_couples):
            self.assertEqual(function(EMPTY, ()), ())
        self.assertEqual(paintings.owned(EMPTY, ()), ("painting", ()))
        self.assertEqual(matings.third(EMPTY, (), ()), ())
        self.assertEqual(fronts.painting_at(EMPTY, 0), ())
        self.assertEqual(fronts.painting_number(EMPTY, ()), 0)
        self.assertEqual(crossed.crossed(EMPTY, (), ()), ())
        self.assertEqual(clusters.clusters(EMPTY, (), ()), ())
        for thing in ((), None, 0, ((),)):
            self.assertIs(strands.shows_strand(EMPTY, (), thing), False)
            self.assertIs(lines.shows_line(EMPTY, (), thing), False)

    def test_it_has_no_hands_no_numbers(self):
        for function, things in (
            (webs.across, (0,)), (webs.way_of, (0,)), (matings.mate, ((), 0)), (strands.strand_at, ((), 0)),
            (strands.over, ((), 0)), (paintings.is_painted, ((), 0)), (lines.line_at, ((), 0)),
            (ties.tied, ((), 0)), (ties.tie_at, ((), 0)), (laid.tied_through, ((), (), 0)),
        ):
            with self.assertRaises(NoHand):
                function(EMPTY, *things)
        for function, things in (
            (webs.ways_at, (0,)), (parts.part_web, (0,)), (parts.part_ways, (0,)), (strands.is_cell, ((), 0)),
            (fronts.painting_at, (1,)), (lines.ways_along, ((), 0)), (lines.is_ring, ((), 0)),
            (crossed.crossed_corners, ((), (), 0)), (crossed.is_loud, ((), (), 0)),
            (clusters.cluster_at, ((), (), 0)), (clusters.chain, ((), (), 0, 0)),
            (clusters.shows_chain, ((), (), 0, 0, None)),
        ):
            with self.assertRaises(NoNumber):
                function(EMPTY, *things)


if __name__ == "__main__":
    unittest.main()
