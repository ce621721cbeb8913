"""Plain tellings of products, sums, bases, unlike paintings and kin; they call nothing of the package."""

from fractions import Fraction
from random import Random

from plain_deeds import (
    is_tie, plain_behind, plain_clusters, plain_gone, plain_heir_lines, plain_lines, plain_loud,
)
from support import (
    is_strictly_rising, plain_is_mating, plain_mate, plain_own, plain_painted_hands, plain_strands, plain_way, whole_row,
)


def compose(one, other):
    return tuple(other[x] for x in one)


def undo(one):
    return tuple(sorted(range(len(one)), key=lambda at: one[at]))


def chance_perm(chance, size):
    return tuple(chance.sample(range(size), size))


def chance_labels(web, size, seed):
    chance = Random(seed)
    return tuple(chance_perm(chance, size) for _ in web[1])


def plain_along(web, labels, hand):
    number = plain_way(web, hand)
    return labels[number] if len(web[1][number]) == 2 and hand == web[1][number][0] else undo(labels[number])


def plain_product(web, labels, row):
    """Of a row of hands, of which those at odd places are gone from; a tie's first end is come in by."""
    if is_tie(web, row):
        product = labels[plain_way(web, row[0])]
    else:
        product = tuple(range(len(labels[0])))
    for hand in row[1::2]:
        product = compose(product, plain_along(web, labels, hand))
    return product


def is_unit(perm):
    return perm == tuple(range(len(perm)))


def plain_cells(web, mating):
    return [(number, row) for number, row in enumerate(plain_strands(web, mating)) if not is_tie(web, row)]


def plain_closed(web, mating, labels):
    """Labels that cancel: the last way of each cell is tried with each permutation till its product is the unit."""
    told = list(labels)
    for _, row in plain_cells(web, mating):
        at = plain_way(web, row[-1])
        product = plain_product(web, labels, row)
        last = plain_along(web, labels, row[-1])
        wanted = undo(compose(product, undo(last)))
        told[at] = wanted if row[-1] == web[1][at][0] else undo(wanted)
    return tuple(told)


def plain_cycles(perm):
    left, lengths = set(range(len(perm))), []
    while left:
        at, long = left.pop(), 1
        while perm[at] in left:
            at = perm[at]
            left.remove(at)
            long += 1
        lengths.append(long)
    return tuple(sorted(lengths))


def plain_carried(web, painting, labels, deed):
    """Walked behind: of each line's heir its cycles, or its product from its lesser end on."""
    told = []
    for _, row in plain_heir_lines(web, painting, deed):
        product = plain_product(web, labels, row)
        told.append(product if is_tie(web, row) else plain_cycles(product))
    return tuple(told)


def plain_by_borders(web, painting, labels, deed):
    """The same, told by lines ahead and borders alone, from where each tie's first end has gone."""
    gone = plain_gone(web, painting, deed)

    def border(end, to):
        if end == to:
            return tuple(range(len(labels[0])))
        row = [row for row in plain_strands(web, deed[1]) if end in row][0]
        return plain_product(web, labels, row if row[0] == end else row[::-1])

    told = []
    for _, row in plain_lines(web, painting):
        product = plain_product(web, labels, row)
        if is_tie(web, row):
            first, last = row[0], row[-1]
            product = compose(undo(border(first, gone[first])), compose(product, border(last, gone[last])))
            told.append(product if gone[first] < gone[last] else undo(product))
        else:
            told.append(plain_cycles(product))
    return tuple(told)


def plain_sum(web, weights, row):
    total = weights[plain_way(web, row[0])] if is_tie(web, row) else 0
    for hand in row[1::2]:
        way = web[1][plain_way(web, hand)]
        sign = 1 if len(way) == 2 and hand == way[0] else -1
        total += sign * weights[plain_way(web, hand)]
    return total


def plain_cell_sums(web, matings):
    """(which mating, number) of each cell with a list of how often each way is in its sum."""
    many = len(web[1])
    units = [tuple(1 if at == way else 0 for at in range(many)) for way in range(many)]
    return {(which, number): [plain_sum(web, unit, row) for unit in units]
            for which, mating in enumerate(matings) for number, row in plain_cells(web, mating)}


def plain_rank(rows):
    rows = [[Fraction(part) for part in row] for row in rows]
    rank = 0
    for column in range(len(rows[0]) if rows else 0):
        pivot = [at for at in range(rank, len(rows)) if rows[at][column] != 0]
        if pivot:
            rows[rank], rows[pivot[0]] = rows[pivot[0]], rows[rank]
            for at in range(rank + 1, len(rows)):
                times = rows[at][column] / rows[rank][column]
                if times:
                    rows[at] = [a - times * b for a, b in zip(rows[at], rows[rank])]
            rank += 1
    return rank


def plain_shows_base(web, matings, thing, sums):
    """As the document says it; sums are `plain_cell_sums` of the matings."""
    many = len(web[1])
    if not isinstance(thing, tuple) or len(thing) != 3 or not all(isinstance(part, tuple) for part in thing):
        return False
    free, rows, steps = thing
    if not whole_row(free) or not is_strictly_rising(free) or not all(0 <= way < many for way in free):
        return False
    if len(rows) != len(free):
        return False
    for at, row in enumerate(rows):
        if not whole_row(row) or len(row) != many:
            return False
        if [row[way] for way in free] != [int(at == other) for other in range(len(free))]:
            return False
        if any(sum(a * b for a, b in zip(row, cell)) for cell in sums.values()):
            return False
    known = set(free)
    for step in steps:
        if not isinstance(step, tuple) or len(step) != 2 or not isinstance(step[0], tuple) or not step[0]:
            return False
        terms, way = step
        if type(way) is not int or not 0 <= way < many or way in known:
            return False
        if not all(whole_row(term) and len(term) == 3 for term in terms):
            return False
        if not all(term[:2] in sums and term[2] in (1, -1) for term in terms):
            return False
        total = [sum(term[2] * sums[term[:2]][at] for term in terms) for at in range(many)]
        hung = {at for at in range(many) if total[at]}
        if way not in hung or not hung <= known | {way}:
            return False
        known.add(way)
    return known == set(range(many))


def unlike_hands(web, painting, other):
    return set(plain_painted_hands(web, painting)) ^ set(plain_painted_hands(web, other))


def plain_leads(web, painting, other, mating):
    unlike = unlike_hands(web, painting, other)
    for post in range(web[0]):
        hands = [hand for hand in range(4 * post, 4 * post + 4) if hand in unlike]
        if len(hands) == 2 and plain_mate(mating, hands[0]) != hands[1]:
            return False
    return True


def plain_fits(web, painting, other, mating):
    if not plain_leads(web, painting, other, mating):
        return False
    unlike = unlike_hands(web, painting, other)
    first = set(plain_painted_hands(web, painting))
    for post in range(web[0]):
        hands = [hand for hand in range(4 * post, 4 * post + 4) if hand in unlike]
        if len(hands) == 4 and any((hand in first) == (plain_mate(mating, hand) in first) for hand in hands):
            return False
    return True


def plain_third(web, painting, other):
    pairs = zip(plain_own(web, painting), plain_own(web, other))
    return tuple(one if one == two else ({0, 1, 2} - {one, two}).pop() for one, two in pairs)


def plain_steps(web, means, painting, flips):
    deeds = [("turn", mating) for mating in means]
    for mating in means if flips else ():
        lots = plain_clusters(web, painting, mating)
        deeds += [("flip", mating, (at,)) for at, (word, _) in enumerate(lots) if word == "quiet"]
    return tuple(sorted(deeds))


def plain_kin(web, means, painting, flips, most=10 ** 9):
    met, queue = {painting}, [painting]
    while queue and len(met) <= most:
        here = queue.pop()
        for deed in plain_steps(web, means, here, flips):
            then = plain_behind(web, here, deed)
            if then not in met:
                met.add(then)
                queue.append(then)
    return tuple(sorted(met))


def plain_kin_number(web, painting, mating):
    """How many kin by one mating alone, flips not left out."""
    loud = len(plain_loud(web, painting, mating))
    return 2 ** (len(plain_clusters(web, painting, mating)) - loud) * (2 if loud else 1)


def plain_are_means(web, thing):
    if not isinstance(thing, tuple) or not 1 <= len(thing) <= 4 or not all(plain_is_mating(web, row) for row in thing):
        return False
    return is_strictly_rising(thing)
