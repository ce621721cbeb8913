"""Weights: whole numbers on ways, their sums round cells, and bases of those that cancel.

A way lies on at most one cell of each mating, so cells hang together by ways as posts of a net
do by its edges. Of each lot that so hangs together a tree of ways tells all others but free ones.
"""

from tiewheel.matings.matings import mates_all, need_mating
from tiewheel.matings.strands import is_round, strand_rows
from tiewheel.products.labels import steps_along
from tiewheel.webs.errors import NoLabels, NoMating
from tiewheel.webs.helper import is_below, is_rising_below, is_row_of_two, is_whole
from tiewheel.webs.webs import need_number, need_web, way_table


def weights_all(web, thing):
    """As `is_weights`, of what surely is a web."""
    return isinstance(thing, tuple) and len(thing) == len(web[1]) and all([is_whole(part) for part in thing])


def need_weights(web, weights):
    """Refuses what are no weights of the web."""
    if not weights_all(web, weights):
        raise NoLabels("no weights of the web")


def need_matings(web, matings):
    """Refuses what is no row of one or two matings."""
    if not isinstance(matings, tuple) or len(matings) not in (1, 2) or not all([mates_all(web, at) for at in matings]):
        raise NoMating("no row of one or two matings of the web")


def sum_along(weights, steps):
    """The sum of weights along steps, taken away where a label's inverse is gone."""
    return sum([weights[number] if ahead else -weights[number] for number, ahead in steps])


def cells_of(web, beyond, matings):
    """For each cell, by (which mating, its number), a dict of its ways: 1, or -1 where the inverse is gone."""
    table = way_table(web)
    cells = {}
    for which, mating in enumerate(matings):
        for number, row in enumerate(strand_rows(beyond, mating)):
            if is_round(beyond, row):
                steps = steps_along(beyond, table, row)
                cells[(which, number)] = {way: 1 if ahead else -1 for way, ahead in steps}
    return cells


def cancels(cells, weights):
    """Whether the sum round each cell is 0."""
    return all([sum([sign * weights[way] for way, sign in cell.items()]) == 0 for cell in list(cells.values())])


def is_weights(web, thing):
    """Whether a thing is weights of the web: whole numbers, one for each way."""
    need_web(web)
    return weights_all(web, thing)


def strand_sum(web, mating, weights, number):
    """The sum of weights along the strand so numbered."""
    beyond = need_web(web)
    need_mating(web, mating)
    need_weights(web, weights)
    rows = strand_rows(beyond, mating)
    need_number(number, len(rows))
    return sum_along(weights, steps_along(beyond, way_table(web), rows[number]))


def do_cancel(web, matings, weights):
    """Whether the sum round each cell of each of these matings is 0."""
    beyond = need_web(web)
    need_matings(web, matings)
    need_weights(web, weights)
    return cancels(cells_of(web, beyond, matings), weights)


def base_of(web, matings):
    """A base (free, rows, steps) of the weights that cancel by these matings."""
    beyond = need_web(web)
    need_matings(web, matings)
    cells = cells_of(web, beyond, matings)
    cells_on = cells_by_way(web, cells)
    steps = []
    met = {}
    for cell in cells:
        if cell not in met:
            order = tree_from(cells, cells_on, cell)[0]
            for other in order:
                met[other] = True
            steps.extend(steps_of_lot(cells, cells_on, order))
    told = [way for _, way in steps]
    free = tuple([way for way in range(len(web[1])) if way not in told])
    return (free, free_rows(len(web[1]), free, steps, cells), tuple(steps))


def cells_by_way(web, cells):
    """For each way the cells that it lies on, at most two."""
    cells_on = [[] for _ in web[1]]
    for cell, ways in cells.items():
        for way in ways:
            cells_on[way].append(cell)
    return cells_on


def tree_from(cells, cells_on, start):
    """(order, ahead, signs) of all cells that hang together with the start.

    Each cell stands behind one with which it shares the way that ahead tells; added or taken
    away as signs tell, all of them hang on none of these ways.
    """
    order = [start]
    ahead = {start: None}
    signs = {start: 1}
    at = 0
    while at < len(order):
        here = order[at]
        for way, sign in cells[here].items():
            for other in cells_on[way]:
                if other not in ahead:
                    ahead[other] = way
                    signs[other] = -signs[here] * sign * cells[other][way]
                    order.append(other)
        at += 1
    return order, ahead, signs


def steps_of_lot(cells, cells_on, lot):
    """Steps by which the ways of these cells, which hang together, are told by free ones."""
    lone = [(cell, way) for cell in lot for way in cells[cell] if len(cells_on[way]) == 1]
    if lone:
        # A way that just one cell has tells that cell, behind all others.
        root, last = lone[0]
        order, ahead, _ = tree_from(cells, cells_on, root)
        return leaves_first(order, ahead) + [((root + (1,),), last)]
    order, ahead, signs = tree_from(cells, cells_on, lot[0])
    terms = tuple([cell + (signs[cell],) for cell in order])
    # Where no way is left the cells hang on one another, and the first one tells nothing new.
    return [(terms, way) for way in list(total_of(cells, terms))[:1]] + leaves_first(order, ahead)


def leaves_first(order, ahead):
    """For each cell but the first one, last ones first, the step by which it tells the way ahead of it."""
    return [((cell + (1,),), ahead[cell]) for cell in order[:0:-1]]


def total_of(cells, terms):
    """The ways on which these cells' sums hang, each with how often it is added, less how often taken away."""
    total = {}
    for which, number, sign in terms:
        for way, worth in cells[(which, number)].items():
            total[way] = total.get(way, 0) + sign * worth
    return {way: times for way, times in total.items() if times != 0}


def free_rows(many, free, steps, cells):
    """For each free way the weights that cancel with 1 there, 0 at all other free ones."""
    # For each way a dict: how often each free way's weight is in its weight.
    worths = [{} for _ in range(many)]
    for at, way in enumerate(free):
        worths[way][at] = 1
    for terms, way in steps:
        total = total_of(cells, terms)
        worth = {}
        for other, times in total.items():
            for at, more in worths[other].items():
                worth[at] = worth.get(at, 0) - times * more
        # A total has its way once, or each of its ways twice: so these quotients are whole.
        worths[way] = {at: more // total[way] for at, more in worth.items()}
    rows = []
    for at in range(len(free)):
        rows.append(tuple([parts.get(at, 0) for parts in worths]))
    return tuple(rows)


def shows_base(web, matings, thing):
    """Whether a thing is a base of the weights that cancel by these matings."""
    beyond = need_web(web)
    need_matings(web, matings)
    if not isinstance(thing, tuple) or len(thing) != 3 or not is_rising_below(thing[0], len(web[1])):
        return False
    free, rows, steps = thing
    cells = cells_of(web, beyond, matings)
    return are_free_rows(web, cells, free, rows) and are_steps(web, cells, free, steps)


def are_free_rows(web, cells, free, thing):
    """Whether a thing is a row of weights that cancel, one for each free way."""
    if not isinstance(thing, tuple) or len(thing) != len(free):
        return False
    for at, row in enumerate(thing):
        if not weights_all(web, row) or not cancels(cells, row):
            return False
        if [row[way] for way in free] != [1 if place == at else 0 for place in range(len(free))]:
            return False
    return True


def are_steps(web, cells, free, thing):
    """Whether a thing is a row of steps by which all ways are told by the free ones."""
    if not isinstance(thing, tuple):
        return False
    known = [False] * len(web[1])
    for way in free:
        known[way] = True
    for step in thing:
        if not is_row_of_two(step) or not are_terms(cells, step[0]) or not is_below(step[1], len(known)):
            return False
        total = total_of(cells, step[0])
        if known[step[1]] or step[1] not in total:
            return False
        known[step[1]] = True
        if not all([known[way] for way in total]):
            return False
    return all(known)


def are_terms(cells, thing):
    """Whether a thing is a row, not empty, of (which mating, a cell's number, 1 or -1)."""
    if not isinstance(thing, tuple) or not thing:
        return False
    for term in thing:
        if not isinstance(term, tuple) or len(term) != 3 or not all([is_whole(part) for part in term]):
            return False
        if term[:2] not in cells or term[2] not in (1, -1):
            return False
    return True
