"""Whether rows of steps lead from one painting to another: told with papers that show it."""

from tiewheel.heirs.deeds import painted_by, work_of
from tiewheel.led.steps import MOST_KIN, led_from, need_means, need_most, strands_by, walked
from tiewheel.paintings.paintings import marks_of, need_painting, painted_marks
from tiewheel.webs.helper import is_rising, is_row_of_two
from tiewheel.webs.webs import need_web, way_table

ROW = "row"
NEVER = "never"


def needed_walk(web, means, painting, other, flips, most):
    """What `walked` tells of a painting; refuses what is not as told, the other painting too."""
    beyond = need_web(web)
    need_means(web, means)
    need_painting(web, painting)
    need_painting(web, other)
    need_most(most)
    return walked(web, beyond, means, painting, flips, most)


def shell_with(shells, other):
    """The number of the shell that has the other painting."""
    return [other in shell for shell in shells].index(True)


def deeds_to(ahead, other):
    """The row of deeds from the first painting to the other one."""
    deeds = []
    here = other
    while ahead[here] is not None:
        deed, here = ahead[here]
        deeds.append(deed)
    return tuple(deeds[::-1])


def led_to(web, means, painting, other, *, flips=True, most=MOST_KIN):
    """("row", deeds, shells) where rows of steps lead to the other one, else ("never", lot)."""
    shells, ahead = needed_walk(web, means, painting, other, flips, most)
    if other not in ahead:
        return (NEVER, tuple(sorted(ahead)))
    told = shells[:shell_with(shells, other) + 1]
    return (ROW, deeds_to(ahead, other), tuple([tuple(sorted(shell)) for shell in told]))


def fewest(web, means, painting, other, *, flips=True, most=MOST_KIN):
    """How many steps at the least lead to the other one, None where none do."""
    shells, ahead = needed_walk(web, means, painting, other, flips, most)
    return shell_with(shells, other) if other in ahead else None


def shows_led(web, means, painting, other, thing, *, flips=True):
    """Whether a thing is one of what `led_to` may tell."""
    beyond = need_web(web)
    need_means(web, means)
    need_painting(web, painting)
    need_painting(web, other)
    strands = strands_by(beyond, means)
    if is_row_of_two(thing):
        return thing[0] == NEVER and is_lot(web, beyond, strands, flips, painting, other, thing[1])
    if not isinstance(thing, tuple) or len(thing) != 3 or thing[0] != ROW:
        return False
    _, deeds, shells = thing
    if not isinstance(deeds, tuple) or not isinstance(shells, tuple) or len(shells) != len(deeds) + 1:
        return False
    if done_steps(web, beyond, strands, flips, painting, deeds) != other:
        return False
    return are_shells(web, beyond, strands, flips, shells) and shells[0] == (painting,) and other in shells[-1]


def are_rising_paintings(web, thing):
    """Whether a thing is a rising row of paintings."""
    if not isinstance(thing, tuple):
        return False
    return all([painted_marks(web, part) is not None for part in thing]) and is_rising(thing)


def is_lot(web, beyond, strands, flips, painting, other, thing):
    """Whether a thing is a lot of paintings, the one among them, not the other, that no step leaves."""
    if not are_rising_paintings(web, thing) or painting not in thing or other in thing:
        return False
    table = way_table(web)
    places = {part: True for part in thing}
    return all([
        then in places
        for here in thing
        for _, then in led_from(web, beyond, table, strands, here, flips)
    ])


def are_shells(web, beyond, strands, flips, thing):
    """Whether each row is one of paintings, none in two, and steps lead at most from one into the next one."""
    if not all([are_rising_paintings(web, shell) for shell in thing]):
        return False
    places = {part: at for at, shell in enumerate(thing) for part in shell}
    if len(places) != sum([len(shell) for shell in thing]):
        return False
    table = way_table(web)
    return all([
        places.get(then, len(thing)) <= at + 1
        for at, shell in enumerate(thing[:-1])
        for here in shell
        for _, then in led_from(web, beyond, table, strands, here, flips)
    ])


def done_steps(web, beyond, strands, flips, painting, deeds):
    """The painting behind a row of steps; None where one is no step of the painting that it meets."""
    here = painting
    for deed in deeds:
        work = work_of(web, beyond, marks_of(web, here), deed)
        if work is None or not is_step(strands, flips, work, deed):
            return None
        here = painted_by(web, here, work)
    return here


def is_step(strands, flips, work, deed):
    """Whether a deed whose work is told is a turn by one of the means or, with flips, the flip of one quiet cluster."""
    if work.mating not in [mating for mating, _ in strands]:
        return False
    return work.turns or flips and work.loud is None and len(deed[2]) == 1
