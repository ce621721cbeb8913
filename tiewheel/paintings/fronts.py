"""Paintings counted, numbered and told, with or without told ends; fronts where there is none.

Within this file a state is a whole number with a bit for each painted way that is open;
what is told has it as a row.
"""

from tiewheel.paintings.paintings import ends_marked, painted_marks
from tiewheel.webs.errors import NoEnds, NoNumber, NoPainting, TooWide
from tiewheel.webs.helper import is_rising, is_rising_below, is_row_of_two, is_whole
from tiewheel.webs.webs import HANDS, end_hands, need_web, way_table

MOST_STATES = 4000
MOST_TOLD = 400
# Which hands of a post may be its two painted ones.
CHOICES = ((0, 1), (0, 2), (0, 3), (1, 2), (1, 3), (2, 3))


def need_ends(web, ends):
    """Refuses what is no rising row of ends, nor None."""
    if ends is None:
        return
    lone = end_hands(web)
    if not is_rising_below(ends, HANDS * web[0]) or not all([hand in lone for hand in ends]):
        raise NoEnds("no rising row of ends of the web")


def is_meant(web, thing, ends):
    """Whether a thing is a painting that has just the told ends painted."""
    marks = painted_marks(web, thing)
    return marks is not None and (ends is None or ends_marked(web, marks) == ends)


def mask_of(ways):
    """A row of ways' numbers as a whole number with a bit for each."""
    mask = 0
    for way in ways:
        mask |= 1 << way
    return mask


def row_of(mask):
    """A mask as the row that it stands for."""
    return tuple([way for way in range(mask.bit_length()) if (mask >> way) & 1])


def plan_of(web, ends):
    """For each post (met, moves): the mask of its ways from posts below it, and its choices.

    Moves has for each mask of painted ones among these (row, mask) of each choice that fits:
    the other ways that it paints, and those of them that are open behind the post. These
    rows are rising; as no one lies within another, so are the paintings that they begin.
    """
    table = way_table(web)
    return [post_plan(web, table[HANDS * post:HANDS * post + HANDS], post, ends) for post in range(web[0])]


def post_plan(web, ways, post, ends):
    """As `plan_of`, of one post and its ways."""
    met = [way for way in ways if web[1][way][0] < HANDS * post]
    moves = {}
    for choice in CHOICES:
        painted = [ways[at] for at in choice]
        bare = [way for at, way in enumerate(ways) if at not in choice]
        if fits(web, painted, bare, ends):
            ahead = mask_of([way for way in painted if way in met])
            fresh = sorted(set([way for way in painted if way not in met]))
            onward = mask_of([way for way in fresh if web[1][way][-1] >= HANDS * post + HANDS])
            moves.setdefault(ahead, []).append((tuple(fresh), onward))
    return (mask_of(met), {ahead: tuple(sorted(moves[ahead])) for ahead in moves})


def fits(web, painted, bare, ends):
    """Whether no way is painted and bare, and told ends are painted just where they are told."""
    if any([way in bare for way in painted]):
        return False
    if ends is None:
        return True
    lone = [web[1][way][0] in ends for way in painted if len(web[1][way]) == 1]
    left = [web[1][way][0] in ends for way in bare if len(web[1][way]) == 1]
    return all(lone) and not any(left)


def leads_to(step, state):
    """(row, state) of each choice of a post from a state: the ways that it paints, the next state."""
    met, moves = step
    ahead = state & met
    return [(row, (state ^ ahead) | onward) for row, onward in moves.get(ahead, ())]


def states_from(plan):
    """For each cut the states to which () leads, as a dict."""
    cuts = [{0: True}]
    for step in plan:
        found = {}
        for state in list(cuts[-1]):
            for _, then in leads_to(step, state):
                found[then] = True
        if len(found) > MOST_STATES:
            raise TooWide(MOST_STATES)
        cuts.append(found)
    return cuts


def counts_from(plan):
    """For each cut a dict: of each state to which () leads how many paintings go on from it."""
    cuts = states_from(plan)
    counts = [{state: 1 for state in cuts[-1]}]
    for step, cut in zip(plan[::-1], cuts[-2::-1]):
        behind = counts[-1]
        counts.append({state: sum([behind[then] for _, then in leads_to(step, state)]) for state in cut})
    return counts[::-1]


def any_painting(plan):
    """One painting, None where there is none: found without counting how many go on from each state."""
    cuts = [{0: None}]
    for met, moves in plan:
        found = {}
        for state in list(cuts[-1]):
            ahead = state & met
            for row, onward in moves.get(ahead, ()):
                found[(state ^ ahead) | onward] = (state, row)
        if len(found) > MOST_STATES:
            raise TooWide(MOST_STATES)
        cuts.append(found)
    if not cuts[-1]:
        return None
    ways = []
    state = 0
    for cut in cuts[:0:-1]:
        state, row = cut[state]
        ways.extend(row)
    return tuple(sorted(ways))


def how_many(counts):
    """How many paintings there are in all, by what `counts_from` tells."""
    return counts[0][0]


def numbered(plan, counts, number):
    """The painting with a number that one has."""
    state = 0
    left = number
    ways = []
    for step, behind in zip(plan, counts[1:]):
        for row, then in leads_to(step, state):
            if left < behind[then]:
                ways.extend(row)
                state = then
                break
            left -= behind[then]
    return tuple(ways)


def many_paintings(web, *, ends=None):
    """How many paintings are meant."""
    need_web(web)
    need_ends(web, ends)
    return how_many(counts_from(plan_of(web, ends)))


def painting_at(web, number, *, ends=None):
    """The meant painting with this number."""
    need_web(web)
    need_ends(web, ends)
    if not is_whole(number) or number < 0:
        raise NoNumber(number)
    plan = plan_of(web, ends)
    counts = counts_from(plan)
    if number >= how_many(counts):
        raise NoNumber(number)
    return numbered(plan, counts, number)


def painting_number(web, painting, *, ends=None):
    """The number of a meant painting among all that are meant."""
    need_web(web)
    need_ends(web, ends)
    if not is_meant(web, painting, ends):
        raise NoPainting("no painting of the web that is meant")
    plan = plan_of(web, ends)
    state = 0
    number = 0
    for step, behind in zip(plan, counts_from(plan)[1:]):
        for row, then in leads_to(step, state):
            if all([way in painting for way in row]):
                state = then
                break
            number += behind[then]
    return number


def all_paintings(web, *, ends=None):
    """All meant paintings, rising."""
    need_web(web)
    need_ends(web, ends)
    plan = plan_of(web, ends)
    counts = counts_from(plan)
    many = how_many(counts)
    if many > MOST_TOLD:
        raise TooWide(MOST_TOLD)
    return tuple([numbered(plan, counts, number) for number in range(many)])


def painting_or_fronts(web, *, ends=None):
    """("painting", one that is meant), or ("none", fronts) where there is none."""
    need_web(web)
    need_ends(web, ends)
    plan = plan_of(web, ends)
    counts = counts_from(plan)
    if how_many(counts) > 0:
        return ("painting", numbered(plan, counts, 0))
    return ("none", tuple([tuple(sorted([row_of(state) for state in cut])) for cut in counts]))


def shows_fronts(web, thing, *, ends=None):
    """Whether a thing is one of what `painting_or_fronts` may tell."""
    need_web(web)
    need_ends(web, ends)
    if not is_row_of_two(thing):
        return False
    word, told = thing
    if word == "painting":
        return is_meant(web, told, ends)
    return word == "none" and are_fronts(web, told, ends)


def are_fronts(web, thing, ends):
    """Whether a thing is fronts: from () on all states are told, and there is no last one."""
    if not isinstance(thing, tuple) or len(thing) != web[0] + 1:
        return False
    if not all([is_front(web, cut, row) for cut, row in enumerate(thing)]):
        return False
    if thing[0] != ((),) or thing[-1] != ():
        return False
    masks = [{mask_of(state): True for state in row} for row in thing]
    return all([
        then in behind
        for step, front, behind in zip(plan_of(web, ends), masks, masks[1:])
        for state in front
        for _, then in leads_to(step, state)
    ])


def is_front(web, cut, thing):
    """Whether a thing is a rising row of states at a cut."""
    if not isinstance(thing, tuple):
        return False
    many = len(web[1])
    across_cut = [way[0] < HANDS * cut <= way[-1] for way in web[1]]
    for state in thing:
        if not is_rising_below(state, many) or not all([across_cut[way] for way in state]):
            return False
    return is_rising(thing)
