"""Products carried to heirs by deeds that keep lines."""

from tiewheel.heirs.heirs import gone_pairs, needed_keeping
from tiewheel.lines.lines import line_rows
from tiewheel.matings.matings import mate_bits, need_mating
from tiewheel.matings.strands import is_round, strand_from
from tiewheel.paintings.paintings import need_painting
from tiewheel.products.labels import first_bar, need_labels, product_of, steps_along
from tiewheel.products.perms import chained, cycle_lengths, undone
from tiewheel.webs.errors import NoLabels
from tiewheel.webs.webs import need_end, need_web, way_table


def over_product(web, mating, labels, hand):
    """The product of an end's border from this end on."""
    beyond = need_web(web)
    need_mating(web, mating)
    need_labels(web, labels)
    need_end(beyond, hand)
    return border_product(beyond, way_table(web), mate_bits(mating), labels, hand)


def border_product(beyond, table, bits, labels, hand):
    """As `over_product`, by the tables of hands across, of ways' numbers, and of mates."""
    return product_of(labels, steps_along(beyond, table, strand_from(beyond, bits, hand)))


def over_products(beyond, table, labels, work, went):
    """For each end that has gone over the product of its border from it on; of ("bare",) none has."""
    if work is None:
        return {}
    bits = mate_bits(work.mating)
    return {end: border_product(beyond, table, bits, labels, end) for end, to in went.items() if end != to}


def tie_product(product, row, went, spans):
    """The product of a tie's heir from its lesser end on, by the tie's own one.

    Went tells where each end has gone, spans the borders' products of those that have gone over.
    """
    first, last = row[0], row[-1]
    if first in spans:
        product = chained(undone(spans[first]), product)
    if last in spans:
        product = chained(product, spans[last])
    return product if went[first] < went[last] else undone(product)


def carried(web, painting, labels, deed):
    """For each line ahead, of a ring its heir's cycles, of a tie its heir's product from its lesser end on."""
    beyond = need_web(web)
    marks = need_painting(web, painting)
    need_labels(web, labels)
    work = needed_keeping(web, beyond, marks, deed)
    if work is not None and first_bar(web, beyond, work.rows, labels) is not None:
        raise NoLabels("labels that do not cancel by the deed's mating")
    table = way_table(web)
    went = dict(gone_pairs(beyond, marks, work))
    spans = over_products(beyond, table, labels, work, went)
    told = []
    for _, row in line_rows(beyond, marks):
        product = product_of(labels, steps_along(beyond, table, row))
        if is_round(beyond, row):
            told.append(cycle_lengths(product))
        else:
            told.append(tie_product(product, row, went, spans))
    return tuple(told)
