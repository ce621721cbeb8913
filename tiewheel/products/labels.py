"""Labels: permutations that are gone along ways; their products along strands and lines."""

from tiewheel.lines.lines import numbered_line
from tiewheel.matings.matings import need_mating
from tiewheel.matings.strands import is_round, strand_rows
from tiewheel.paintings.paintings import need_painting
from tiewheel.products.perms import are_perms, chained, chained_back, plain_unit, undone
from tiewheel.webs.errors import NoLabels
from tiewheel.webs.webs import HANDS, need_hand, need_number, need_web, way_number, way_table


def labels_all(web, thing):
    """As `is_labels`, of what surely is a web."""
    return are_perms(thing) and len(thing) == len(web[1])


def need_labels(web, labels):
    """Refuses what are no labels of the web."""
    if not labels_all(web, labels):
        raise NoLabels("no labels of the web")


def goes_ahead(beyond, hand):
    """Whether from this hand on a way's label is gone, else its inverse; of an end out."""
    other = beyond[hand]
    return other is not None and hand < other


def steps_along(beyond, table, row):
    """For each way along a strand (its number, whether its label is gone, else its inverse).

    Beyond has the hands across, the table the ways' numbers; a border may be told from either end.
    """
    steps = [] if is_round(beyond, row) else [(table[row[0]], True)]
    for hand in row[1::2]:
        steps.append((table[hand], goes_ahead(beyond, hand)))
    return steps


def product_of(labels, steps):
    """All that is gone along such steps, one behind another."""
    product = plain_unit(len(labels[0]))
    for number, ahead in steps:
        product = chained(product, labels[number]) if ahead else chained_back(product, labels[number])
    return product


def first_bar(web, beyond, rows, labels):
    """The number of the first cell of these strands whose product isn't the unit, else None."""
    table = way_table(web)
    for number, row in enumerate(rows):
        if is_round(beyond, row):
            product = product_of(labels, steps_along(beyond, table, row))
            if product != plain_unit(len(product)):
                return number
    return None


def is_labels(web, thing):
    """Whether a thing is labels of the web: permutations of one size, one for each way."""
    need_web(web)
    return labels_all(web, thing)


def along(web, labels, hand):
    """What is gone along a hand's way from this hand on, of an end out."""
    beyond = need_web(web)
    need_labels(web, labels)
    need_hand(beyond, hand)
    label = labels[way_number(web, beyond, hand)]
    return label if goes_ahead(beyond, hand) else undone(label)


def strand_product(web, mating, labels, number):
    """The product of the strand so numbered."""
    beyond = need_web(web)
    need_mating(web, mating)
    need_labels(web, labels)
    rows = strand_rows(beyond, mating)
    need_number(number, len(rows))
    return product_of(labels, steps_along(beyond, way_table(web), rows[number]))


def line_product(web, painting, labels, number):
    """The product of the line so numbered."""
    beyond = need_web(web)
    marks = need_painting(web, painting)
    need_labels(web, labels)
    row = numbered_line(beyond, marks, number)[1]
    return product_of(labels, steps_along(beyond, way_table(web), row))


def bar_of(web, mating, labels):
    """The number of the first cell whose product isn't the unit, None where labels cancel."""
    beyond = need_web(web)
    need_mating(web, mating)
    need_labels(web, labels)
    return first_bar(web, beyond, strand_rows(beyond, mating), labels)


def closed(web, mating, labels):
    """Labels as they are, but at the way by which each cell comes to its first hand: so they cancel."""
    beyond = need_web(web)
    need_mating(web, mating)
    need_labels(web, labels)
    table = way_table(web)
    told = list(labels)
    for row in strand_rows(beyond, mating):
        if is_round(beyond, row):
            steps = steps_along(beyond, table, row)
            # A cell's first hand is its least: by its last way the label's inverse is gone,
            # so the label has to be all that is gone ahead of it.
            told[steps[-1][0]] = product_of(labels, steps[:-1])
    return tuple(told)


def pinned(web, perms):
    """Labels by which a way goes its first post's permutation back, then its other one's; an end its post's."""
    need_web(web)
    if not are_perms(perms) or len(perms) != web[0]:
        raise NoLabels("no permutations of one size, one for each post")
    told = []
    for way in web[1]:
        label = perms[way[-1] // HANDS]
        told.append(label if len(way) == 1 else chained(undone(perms[way[0] // HANDS]), label))
    return tuple(told)
