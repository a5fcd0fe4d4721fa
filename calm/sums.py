"""Sums [4]: tuples (number, parts), parts sorted by box, each box once, no times 0."""


# Every sum is made here, so that two sums of like worth are one and the same tuple.
def sum_of(number, pairs):
    times = {}
    for box, many in pairs:
        times[box] = times.get(box, 0) + many
    parts = [(box, times[box]) for box in sorted(times) if times[box] != 0]
    return (number, tuple(parts))


def plus(one, other):
    return sum_of(one[0] + other[0], one[1] + other[1])


def minus(one, other):
    return plus(one, by(other, -1))


def by(one, times):
    return sum_of(one[0] * times, [(box, many * times) for box, many in one[1]])


def value(one, book):
    return one[0] + sum([times * book[box] for box, times in one[1]])


# All pairs are gathered ahead of adding up, so that a sum put in is not put into again.
def put(one, sets):
    number = one[0]
    pairs = []
    for box, times in one[1]:
        inner = sets.get(box, (0, ((box, 1),)))
        number = number + times * inner[0]
        pairs.extend(by(inner, times)[1])
    return sum_of(number, pairs)


def boxes_of(one):
    return [box for box, times in one[1]]
