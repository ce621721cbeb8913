"""Plain tellings of shells, rows of deeds and heirs along them; they call nothing of the package."""

from plain_deeds import (
    OTHER, is_tie, plain_behind, plain_first_loud, plain_gone, plain_heir_lines, plain_is_deed, plain_lines,
)
from plain_products import plain_steps
from support import is_strictly_rising, plain_is_painting


def plain_shells(web, means, painting, flips, most=10 ** 9):
    """Lists of paintings by how few steps lead to them; None where there are more than most."""
    shells = [[painting]]
    met = {painting}
    while shells[-1]:
        shell = []
        for here in shells[-1]:
            for deed in plain_steps(web, means, here, flips):
                then = plain_behind(web, here, deed)
                if then not in met:
                    met.add(then)
                    shell.append(then)
        if len(met) > most:
            return None
        shells.append(shell)
    return [sorted(shell) for shell in shells[:-1]]


def plain_far(shells, other):
    found = [at for at, shell in enumerate(shells) if other in shell]
    return found[0] if found else None


def plain_rising_paintings(web, thing):
    if not isinstance(thing, tuple) or not all(plain_is_painting(web, part) for part in thing):
        return False
    return is_strictly_rising(thing)


def plain_shows_led(web, means, painting, other, thing, flips):
    """As the document says it: a row with its shells, or a lot that no step leaves."""
    if not isinstance(thing, tuple) or len(thing) not in (2, 3):
        return False
    if len(thing) == 2:
        word, lot = thing
        if word != "never" or not plain_rising_paintings(web, lot) or painting not in lot or other in lot:
            return False
        return all(plain_behind(web, here, deed) in lot for here in lot for deed in plain_steps(web, means, here, flips))
    word, deeds, shells = thing
    if word != "row" or not isinstance(deeds, tuple) or not isinstance(shells, tuple) or len(shells) != len(deeds) + 1:
        return False
    here = painting
    for deed in deeds:
        if not plain_is_deed(web, here, deed) or deed not in plain_steps(web, means, here, flips):
            return False
        here = plain_behind(web, here, deed)
    if here != other or not all(plain_rising_paintings(web, shell) for shell in shells):
        return False
    if shells[0] != (painting,) or other not in shells[-1]:
        return False
    rows = [part for shell in shells for part in shell]
    if len(rows) != len(set(rows)):
        return False
    for at, shell in enumerate(shells[:-1]):
        near = [part for row in shells[:at + 2] for part in row]
        for here in shell:
            if not all(plain_behind(web, here, deed) in near for deed in plain_steps(web, means, here, flips)):
                return False
    return True


def plain_met(web, painting, deeds):
    """The paintings ahead of all deeds and behind each; None where one is none of what it meets."""
    told = [painting]
    for deed in deeds:
        if not plain_is_deed(web, told[-1], deed):
            return None
        told.append(plain_behind(web, told[-1], deed))
    return told


def plain_are_deeds(web, painting, thing):
    return isinstance(thing, tuple) and len(thing) <= 60 and plain_met(web, painting, thing) is not None


def plain_bar_along(web, painting, deeds):
    """The loud cluster's number of the first deed that doesn't keep, else None."""
    for here, deed in zip(plain_met(web, painting, deeds), deeds):
        if plain_first_loud(web, here, deed) is not None:
            return plain_first_loud(web, here, deed)
    return None


def plain_along(web, painting, deeds):
    """(heirs' lines, ends gone): for each line of the first its heir, for each end where it has gone, deed by deed."""
    heirs = list(plain_lines(web, painting))
    gone = {end: end for _, row in heirs if is_tie(web, row) for end in (row[0], row[-1])}
    here = painting
    for deed in deeds:
        then = dict(zip(plain_lines(web, here), plain_heir_lines(web, here, deed)))
        went = plain_gone(web, here, deed)
        heirs = [then[line] for line in heirs]
        gone = {end: went[to] for end, to in gone.items()}
        here = plain_behind(web, here, deed)
    return heirs, gone


def plain_heirs_along(web, painting, deeds):
    heirs, gone = plain_along(web, painting, deeds)
    lines = plain_lines(web, plain_met(web, painting, deeds)[-1])
    told = []
    for (_, row), heir in zip(plain_lines(web, painting), heirs):
        told.append((lines.index(heir), (gone[row[0]], gone[row[-1]]) if is_tie(web, row) else ()))
    return tuple(told)


def plain_kinds_exchange(deeds):
    """Whether kinds of lines with tracks are exchanged by a row of turns and bare alone."""
    return len([deed for deed in deeds if deed[0] in ("turn", "bare")]) % 2 == 1


def other_kinds(lines):
    return [(OTHER[kind], row) for kind, row in lines]
