"""Plain tellings of accounts, tables and halves; they call nothing of the package."""

from collections import Counter
from itertools import combinations

from plain_deeds import is_tie, plain_lines
from support import is_strictly_rising, plain_across, plain_ends, plain_painted_ends, plain_paintings, plain_strands, whole_row


def plain_account(web, painting):
    lines = plain_lines(web, painting)
    ties = [[(row[0], row[-1]) for kind, row in lines if kind == wanted and is_tie(web, row)] for wanted in ("painted", "bare")]
    return (tuple(sorted(ties[0])), tuple(sorted(ties[1])), len(lines) - len(ties[0]) - len(ties[1]))


def plain_table(web, ends=None):
    rows = [row for row in plain_paintings(web) if ends is None or plain_painted_ends(web, row) == ends]
    return tuple(sorted(Counter(plain_account(web, row) for row in rows).items()))


def plain_widths(web, ends=None):
    """For each cut how many unlike halves come: all choices are kept, and pieces walked from hand to hand."""
    across = plain_across(web)
    lots = [{}]
    for post in range(web[0]):
        hands = range(4 * post, 4 * post + 4)
        then = []
        for shades in lots:
            for pair in combinations(hands, 2):
                both = dict(shades)
                both.update({hand: hand in pair for hand in hands})
                fits = all(both.get(across[hand], both[hand]) == both[hand] for hand in hands)
                if ends is not None:
                    fits = fits and all((hand in ends) == both[hand] for hand in hands if across[hand] is None)
                if fits:
                    then.append(both)
        lots = then
        yield len({plain_half(across, both) for both in lots})


def plain_half(across, shades):
    """(pieces, rings) of hands that are painted or bare: from hand to mate, from there across where that is below, too."""
    def mate(hand):
        first = hand - hand % 4
        return [other for other in range(first, first + 4) if other != hand and shades[other] == shades[hand]][0]

    met, pieces = set(), []
    for hand in sorted(shades):
        if across[hand] not in shades and hand not in met:
            here = hand
            while here in shades:
                met |= {here, mate(here)}
                last = mate(here)
                here = across[last]
            pieces.append(("painted" if shades[hand] else "bare", min(hand, last), max(hand, last)))
    rings = 0
    for hand in sorted(shades):
        if hand not in met:
            here = hand
            while here not in met:
                met |= {here, mate(here)}
                here = across[mate(here)]
            rings += 1
    return (tuple(sorted(pieces)), rings)


def plain_are_ties(web, painted, bare):
    pairs = []
    for thing in (painted, bare):
        if not isinstance(thing, tuple) or not all(whole_row(pair) and len(pair) == 2 for pair in thing):
            return False
        if not is_strictly_rising(thing) or not all(one < other for one, other in thing):
            return False
        pairs += thing
    return sorted(end for pair in pairs for end in pair) == list(plain_ends(web))


def plain_is_table(web, thing):
    if not isinstance(thing, tuple):
        return False
    for pair in thing:
        if not isinstance(pair, tuple) or len(pair) != 2 or not isinstance(pair[0], tuple) or len(pair[0]) != 3:
            return False
        if type(pair[1]) is not int or pair[1] < 1 or type(pair[0][2]) is not int or pair[0][2] < 0:
            return False
        if not plain_are_ties(web, *pair[0][:2]):
            return False
    return is_strictly_rising([account for account, _ in thing])


def plain_table_over(web, mating, table):
    went = {}
    for row in plain_strands(web, mating):
        if is_tie(web, row):
            went.update({row[0]: row[-1], row[-1]: row[0]})

    def over(pairs):
        return tuple(sorted(tuple(sorted((went[one], went[other]))) for one, other in pairs))

    return tuple(sorted(((over(bare), over(painted), rings), many) for (painted, bare, rings), many in table))
