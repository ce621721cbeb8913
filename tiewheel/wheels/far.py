"""Ties and their products behind many turns of a wheel, told at once."""

from math import lcm

from tiewheel.lines.lines import line_rows, other_kind
from tiewheel.matings.strands import is_round, strand_rows
from tiewheel.paintings.paintings import need_painting
from tiewheel.products.labels import first_bar, need_labels, product_of, steps_along
from tiewheel.products.perms import chained, cycle_lengths, plain_unit, undone
from tiewheel.webs.errors import NoEnds, NoLabels, NoWheel
from tiewheel.webs.webs import need_end, way_table
from tiewheel.wheels.wheels import are_by_turns, bar_among, ends_moved, moved, need_turns, need_two, rim_rows


def need_by_turns(web, first, second, painting):
    """(hands across, rims, lines), refusing what is no wheel, no painting of it with ends by turns."""
    beyond = need_two(web, first, second)
    if bar_among(beyond, first, second) is not None:
        raise NoWheel("matings by which the web is no wheel")
    marks = need_painting(web, painting)
    rims = rim_rows(beyond, first, second)
    if not are_by_turns(rims, marks):
        raise NoEnds("ends that are not painted and bare by turns")
    return beyond, rims, line_rows(beyond, marks)


def tie_ends(beyond, lines):
    """(kind, first end, last end) of each tie among lines."""
    return [(kind, row[0], row[-1]) for kind, row in lines if not is_round(beyond, row)]


def kind_then(kind, turns):
    """The kind behind so many turns."""
    return other_kind(kind) if turns & 1 else kind


def ties_moved(ties, rims, turns, begin):
    """The ties behind so many turns, in the order of those ahead."""
    went = ends_moved(rims, turns, begin)
    told = []
    for kind, one, other in ties:
        ends = sorted([went[one], went[other]])
        told.append((kind_then(kind, turns), ends[0], ends[1]))
    return told


def ties_behind(web, first, second, painting, turns, *, begin=0):
    """The ties behind so many turns: (kind, end, end), rising."""
    beyond, rims, lines = need_by_turns(web, first, second, painting)
    need_turns(turns, begin)
    return tuple(sorted(ties_moved(tie_ends(beyond, lines), rims, turns, begin)))


def tied_behind(web, first, second, painting, hand, turns, *, begin=0):
    """(kind, other end) of the tie that an end has behind so many turns."""
    beyond, rims, lines = need_by_turns(web, first, second, painting)
    need_end(beyond, hand)
    need_turns(turns, begin)
    ties = ties_moved(tie_ends(beyond, lines), rims, turns, begin)
    return [(kind, other if one == hand else one) for kind, one, other in ties if hand in (one, other)][0]


def beats_of(web, first, second, painting):
    """The least number of beats behind which all ties are as at first."""
    beyond, rims, lines = need_by_turns(web, first, second, painting)
    ties = tie_ends(beyond, lines)
    wanted = sorted(ties)
    # By so many beats each end comes to its own place again; what does as well are the multiples
    # of just one number, so primes may be taken away one by one.
    beats = 1
    for row in rims:
        beats = lcm(beats, len(row) // 2)
    for prime in primes_of(beats):
        while beats % prime == 0 and sorted(ties_moved(ties, rims, 2 * (beats // prime), 0)) == wanted:
            beats = beats // prime
    return beats


def primes_of(number):
    """The primes in a number that has none but small ones."""
    primes = []
    rest = number
    prime = 2
    while rest > 1:
        if rest % prime == 0:
            primes.append(prime)
            while rest % prime == 0:
                rest = rest // prime
        prime += 1
    return primes


def border_products(beyond, table, mating, labels):
    """For each end the product of its border by a mating, from it on."""
    told = {}
    for row in strand_rows(beyond, mating):
        if not is_round(beyond, row):
            product = product_of(labels, steps_along(beyond, table, row))
            told[row[0]] = product
            told[row[-1]] = undone(product)
    return told


def products_on(row, both, size):
    """For each place of a rim the product from its first end to there, and last that of the whole rim.

    Both are what `border_products` tells by the first, by the second mating.
    """
    told = [plain_unit(size)]
    for place, end in enumerate(row):
        told.append(chained(told[-1], both[place & 1][end]))
    return told


def repeated(product, times):
    """A permutation so many times, its inverse so many times where they are below 0."""
    around = 1
    for length in cycle_lengths(product):
        around = lcm(around, length)
    told = plain_unit(len(product))
    for _ in range(times % around):
        told = chained(told, product)
    return told


def way_gone(places, place, then):
    """The product from a place of a rim to one to which an end goes from there, round and round."""
    rounds, rest = divmod(then, len(places) - 1)
    ahead = chained(repeated(places[-1], rounds), places[rest])
    return chained(undone(places[place]), ahead)


def ways_gone(rims, both, size, turns, begin):
    """For each end the product along all borders over which it goes by so many turns."""
    told = {}
    for row in rims:
        places = products_on(row, both, size)
        for place, end in enumerate(row):
            told[end] = way_gone(places, place, moved(place, turns, begin))
    return told


def need_cancelling(web, beyond, first, second, labels):
    """Refuses what are no labels, or do not cancel by both matings."""
    need_labels(web, labels)
    for mating in (first, second):
        if first_bar(web, beyond, strand_rows(beyond, mating), labels) is not None:
            raise NoLabels("labels that do not cancel by both matings")


def products_behind(web, first, second, painting, labels, turns, *, begin=0):
    """For each tie behind so many turns, in order, its product from its lesser end on."""
    beyond, rims, lines = need_by_turns(web, first, second, painting)
    need_cancelling(web, beyond, first, second, labels)
    need_turns(turns, begin)
    if not rims:
        return ()
    table = way_table(web)
    both = [border_products(beyond, table, mating, labels) for mating in (first, second)]
    spans = ways_gone(rims, both, len(labels[0]), turns, begin)
    went = ends_moved(rims, turns, begin)
    told = []
    for kind, row in lines:
        if not is_round(beyond, row):
            product = product_of(labels, steps_along(beyond, table, row))
            one, other = row[0], row[-1]
            product = chained(undone(spans[one]), chained(product, spans[other]))
            if went[one] < went[other]:
                told.append((kind_then(kind, turns), went[one], went[other], product))
            else:
                told.append((kind_then(kind, turns), went[other], went[one], undone(product)))
    return tuple([product for _, _, _, product in sorted(told)])
