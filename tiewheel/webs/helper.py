"""What all files share: judging rows of numbers, and going through what hangs together."""


def is_whole(thing):
    """Whether a thing is a whole number: truths are none."""
    return isinstance(thing, int) and not isinstance(thing, bool)


def is_below(thing, many):
    """Whether a thing is a whole number from 0 to below many."""
    return is_whole(thing) and 0 <= thing < many


def are_below(thing, many):
    """Whether a thing is a row of whole numbers from 0 to below many."""
    return isinstance(thing, tuple) and all([is_below(part, many) for part in thing])


def is_rising(row):
    """Whether each one of a row is less than the next; all have to be of one kind."""
    return all([one < other for one, other in zip(row, row[1:])])


def is_rising_below(thing, many):
    """Whether a thing is a rising row of whole numbers from 0 to below many."""
    return are_below(thing, many) and is_rising(thing)


def is_row_of_two(thing):
    """Whether a thing is a row of just two."""
    return isinstance(thing, tuple) and len(thing) == 2


def neighbours(many, pairs):
    """For each of so many things a list of those that it is paired with."""
    near = [[] for _ in range(many)]
    for one, other in pairs:
        near[one].append(other)
        near[other].append(one)
    return near


def both_ways(pairs):
    """A dict that has each of the pairs, and each turned about."""
    return {pair: True for one, other in pairs for pair in ((one, other), (other, one))}


def reached(near, start):
    """For each thing that is come to from the start the one ahead of it, None of the start."""
    ahead = {start: None}
    queue = [start]
    at = 0
    while at < len(queue):
        here = queue[at]
        for other in near[here]:
            if other not in ahead:
                ahead[other] = here
                queue.append(other)
        at += 1
    return ahead


def forest(many, pairs):
    """As `reached`, from the least thing of each lot that hangs together."""
    near = neighbours(many, pairs)
    ahead = {}
    for start in range(many):
        if start not in ahead:
            ahead.update(reached(near, start))
    return ahead


def path_to(ahead, last):
    """The list of things from a start to the last one, each the one ahead of the next."""
    row = [last]
    while ahead[row[-1]] is not None:
        row.append(ahead[row[-1]])
    return row[::-1]


def groups(many, pairs):
    """Rising rows of the things that hang together, in the order of their least ones."""
    near = neighbours(many, pairs)
    met = [False] * many
    rows = []
    for start in range(many):
        if not met[start]:
            row = tuple(sorted(reached(near, start)))
            for thing in row:
                met[thing] = True
            rows.append(row)
    return tuple(rows)
