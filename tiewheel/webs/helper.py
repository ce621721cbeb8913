"""What all files share: judging rows of numbers, and going through what hangs together."""


def is_whole(thing):
    """Whether a thing is a whole number: truths are none."""
    return isinstance(thing, int) and not isinstance(thing, bool)


def is_below(thing, many):
    """Whether a thing is a whole number from 0 to below many."""
    return isinstance(thing, int) and not isinstance(thing, bool) and 0 <= thing < many


def are_below(thing, many):
    """Whether a thing is a row of whole numbers from 0 to below many."""
    if not isinstance(thing, tuple):
        return False
    for part in thing:
        if not isinstance(part, int) or isinstance(part, bool) or not 0 <= part < many:
            return False
    return True


def is_rising(row):
    """Whether each one of a row is less than the next; all have to be of one kind."""
    return all([one < other for one, other in zip(row, row[1:])])


def is_rising_below(thing, many):
    """Whether a thing is a rising row of whole numbers from 0 to below many."""
    if not isinstance(thing, tuple):
        return False
    least = 0
    for part in thing:
        if not isinstance(part, int) or isinstance(part, bool) or not least <= part < many:
            return False
        least = part + 1
    return True


def is_row_of_two(thing):
    """Whether a thing is a row of just two."""
    return isinstance(thing, tuple) and len(thing) == 2


def is_same(one, other):
    """Whether two things are the same throughout: no truth is a number, no list a row."""
    # What things look like tells their kinds as well, which == doesn't.
    return one == other and repr(one) == repr(other)


def neighbours(many, pairs):
    """For each of so many things a list of those that it is paired with."""
    near = [[] for _ in range(many)]
    for one, other in pairs:
        near[one].append(other)
        near[other].append(one)
    return near


def both_ways(pairs):
    """A dict that has each of the pairs, and each turned about."""
    return {pair: True for one, other in pairs for pair in ((one, other), (other, one))}


def reached(near, start):
    """For each thing that is come to from the start the one ahead of it, None of the start.

    Each stands behind the one ahead of it.
    """
    ahead = {start: None}
    queue = [start]
    at = 0
    while at < len(queue):
        here = queue[at]
        for other in near[here]:
            if other not in ahead:
                ahead[other] = here
                queue.append(other)
        at += 1
    return ahead


def forest(many, pairs):
    """As `reached`, from the least thing of each lot that hangs together."""
    near = neighbours(many, pairs)
    ahead = {}
    for start in range(many):
        if start not in ahead:
            ahead.update(reached(near, start))
    return ahead


def path_to(ahead, last):
    """The list of things from a start to the last one, each the one ahead of the next."""
    row = [last]
    while ahead[row[-1]] is not None:
        row.append(ahead[row[-1]])
    return row[::-1]


def groups(many, pairs):
    """Rising rows of the things that hang together, in the order of their least ones."""
    # Each thing leads to a lesser one of its lot, or is the least; a pair joins two lots.
    lesser = list(range(many))
    for one, other in pairs:
        while lesser[one] != one:
            one = lesser[one]
        while lesser[other] != other:
            other = lesser[other]
        if one < other:
            lesser[other] = one
        else:
            lesser[one] = other
    lots = {}
    for thing in range(many):
        lesser[thing] = lesser[lesser[thing]]
        lots.setdefault(lesser[thing], []).append(thing)
    return tuple([tuple(lot) for lot in lots.values()])
