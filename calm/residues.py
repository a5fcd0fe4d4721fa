"""Sums that are to be 0, and sums that are to be divided: whole numbers for their boxes, or why there are none [27].

An equation is a tuple (sum, divisor, row): the sum is divided by the divisor, or is 0 where the divisor is 0; row is
what a paper of the kind "rest" says of it but for its times. What is divided by d is d times a number of its own, so
that each equation asks for a sum of 0.

Columns are dicts from boxes, and from the numbers of equations with a divisor, to whole numbers. What fits the
equations so far is a whole number of each settled column, known for each, together with any whole numbers of the free
ones.
"""

from calm.wholes import divisor_of


class Solving:
    def __init__(self, boxes):
        self.free = [{box: 1} for box in boxes]
        self.settled = []
        self.many = []
        self.heads = []
        self.equations = []


# Told is ("rest", m, rows), m and rows as a paper has them but for atoms in the place of their numbers; or
# ("fit", solving), of which a point can be asked.
def solved(boxes, equations):
    solving = Solving(boxes)
    for number, equation in enumerate(equations):
        clash = settle_equation(solving, number, equation)
        if clash is not None:
            return clash
    return ("fit", solving)


def settle_equation(solving, number, equation):
    asked = dict(equation[0][1])
    if equation[1] > 0:
        asked[number] = -equation[1]
        solving.free.append({number: 1})
    heads = [met(asked, column) for column in solving.settled]
    left = -equation[0][0] - sum([head * many for head, many in zip(heads, solving.many)])
    head = gather(solving, asked)
    # Nothing free is asked of: what it comes to is settled, for good or ill, by the equations ahead of it.
    if head == 0:
        return None
    solving.heads.append(heads + [head])
    solving.equations.append(equation)
    if left % head != 0:
        return clash_at_last(solving)
    solving.many.append(left // head)
    return None


def met(asked, column):
    return sum([many * column.get(name, 0) for name, many in asked.items()])


# Free columns are taken from one another till one alone is asked of. It is put behind the settled ones, and told is how
# much of it is asked; 0 where there is none.
def gather(solving, asked):
    others = [column for column in solving.free if met(asked, column) == 0]
    asked_of = [(met(asked, column), column) for column in solving.free if met(asked, column) != 0]
    if len(asked_of) == 0:
        return 0
    while len(asked_of) > 1:
        least = min([(abs(pair[0]), spot) for spot, pair in enumerate(asked_of)])[1]
        pivot = asked_of[least]
        left = [pivot]
        for head, column in asked_of[:least] + asked_of[least + 1:]:
            other = with_times(column, pivot[1], -(head // pivot[0]))
            if head % pivot[0] == 0:
                others.append(other)
            else:
                left.append((head % pivot[0], other))
        asked_of = left
    solving.free = others
    solving.settled.append(asked_of[0][1])
    return asked_of[0][0]


def with_times(column, other, many):
    added = dict(column)
    for name, times in other.items():
        added[name] = added.get(name, 0) + times * many
    return added


# The equations, each so many times, that leave of the settled columns the last alone, once; but it would be no whole
# number of it that fits. Times are had from the last equation to the first, all of them over one divisor.
def clash_at_last(solving):
    last = len(solving.heads) - 1
    times = {last: 1}
    divisor = abs(solving.heads[last][last])
    for spot in list(range(last))[::-1]:
        head = solving.heads[spot][spot]
        over = sum([many * solving.heads[row][spot] for row, many in times.items()])
        stretch = abs(head) // divisor_of([head, over])
        divisor = divisor * stretch
        for row in list(times):
            times[row] = times[row] * stretch
        times[spot] = -(over * stretch) // head
    rows = [solving.equations[spot][2] + (many,) for spot, many in times.items() if many != 0]
    return ("rest", divisor, rows)


# A book that fits, near a point as the tableau tells it. Each box in turn gets as near as the boxes ahead of it leave
# it; those with the longest stretches are most likely to bear what is left.
def near(solving, point, ends):
    here = dict([(box, 0) for box in ends])
    for column, many in zip(solving.settled, solving.many):
        here = with_times(here, column, many)
    for box in sorted(ends, key=lambda name: ends[name][1] - ends[name][0]):
        if gather(solving, {box: 1}) != 0:
            way = solving.settled.pop()
            here = with_times(here, way, strides(here[box], way[box], point[0], point[1][box], ends[box]))
    return dict([(box, here[box]) for box in ends])


# How often to go on by the stride, to come near to the aim, but not beyond an end.
def strides(start, stride, many, aim, pair):
    there = start + stride * ((2 * (aim - start * many) + stride * many) // (2 * stride * many))
    if there < pair[0]:
        there = there + abs(stride)
    elif there > pair[1]:
        there = there - abs(stride)
    return (there - start) // stride
