"""Bounds of sums of boxes, and a point that keeps to all of them, or a sum that shows that none does [27] [29].

A column stands for a box, or for what the parts of a sum come to. A loose column has a whole number for its value.
Every other one hangs on loose ones: its line, a tuple (many, times), tells that its value, many times, is the sum of
times * value over loose columns. An end of a column is None, or a tuple (number, atom), the atom that asks for it.
"""

from calm.checker import at_least, at_most
from calm.sums import value
from calm.wholes import divisor_of


class Tableau:
    def __init__(self):
        self.columns = {}
        self.lows = []
        self.highs = []
        self.points = []
        self.lines = {}


def tableau_of(rows):
    tableau = Tableau()
    for box, low, high in rows:
        parts = ((box, 1),)
        tableau.columns[parts] = len(tableau.points)
        tableau.lows.append((low, at_least(box, low)))
        tableau.highs.append((high, at_most(box, high)))
        tableau.points.append(min(max(low, 0), high))
    return tableau


# Lines are never changed once they are made, so that the copy may share them.
def copied(tableau):
    other = Tableau()
    other.columns = dict(tableau.columns)
    other.lows = list(tableau.lows)
    other.highs = list(tableau.highs)
    other.points = list(tableau.points)
    other.lines = dict(tableau.lines)
    return other


def turned(parts):
    return tuple([(box, -times) for box, times in parts])


# Parts and parts turned about share a column: its first times is above 0.
def lay_bound(tableau, atom):
    number = atom[1][0]
    parts = atom[1][1]
    if len(parts) == 0:
        return [(atom, 1)] if number > 0 else None
    if parts[0][1] > 0:
        column = column_of(tableau, parts)
        if tableau.highs[column] is None or -number < tableau.highs[column][0]:
            tableau.highs[column] = (-number, atom)
    else:
        column = column_of(tableau, turned(parts))
        if tableau.lows[column] is None or number > tableau.lows[column][0]:
            tableau.lows[column] = (number, atom)
    return ends_clash(tableau, column)


# A clash is a list of tuples (atom, times), whose sums together have no box and a number above 0.
def ends_clash(tableau, column):
    low = tableau.lows[column]
    high = tableau.highs[column]
    if low is not None and high is not None and low[0] > high[0]:
        return [(low[1], 1), (high[1], 1)]
    if column not in tableau.lines:
        tableau.points[column] = between(tableau.points[column], low, high)
    return None


def between(number, low, high):
    if low is not None and number < low[0]:
        return low[0]
    return high[0] if high is not None and number > high[0] else number


def column_of(tableau, parts):
    if parts not in tableau.columns:
        tableau.lines[len(tableau.points)] = line_of(tableau, parts)
        tableau.columns[parts] = len(tableau.points)
        tableau.lows.append(None)
        tableau.highs.append(None)
        tableau.points.append(0)
    return tableau.columns[parts]


def line_of(tableau, parts):
    line = (1, {})
    for box, times in parts:
        column = tableau.columns[((box, 1),)]
        inner = tableau.lines.get(column, (1, {column: 1}))
        line = with_line(line, inner, times * line[0])
    return lowest(line)


# The line with so many times the inner one put to it; so many, like the line's own times, is told of its many.
def with_line(line, inner, so_many):
    added = {}
    for column, times in line[1].items():
        added[column] = times * inner[0]
    for column, times in inner[1].items():
        added[column] = added.get(column, 0) + times * so_many
    return (line[0] * inner[0], added)


def lowest(line):
    divisor = divisor_of([line[0]] + list(line[1].values()))
    times = {}
    for column, many in line[1].items():
        if many != 0:
            times[column] = many // divisor
    return (line[0] // divisor, times)


# None where the point keeps to all ends, else a clash. Of the columns that could be taken it is always the first one:
# so no set of hanging columns comes twice, and there is an end.
def settle(tableau):
    while True:
        out = first_out(tableau)
        if out is None:
            return None
        line = tableau.lines[out[0]]
        other = first_helping(tableau, line, out[1])
        if other is None:
            return line_clash(tableau, line, out[0], out[1])
        end = tableau.lows[out[0]] if out[1] > 0 else tableau.highs[out[0]]
        change_about(tableau, out[0], other, end[0])


# The first hanging column that is beyond an end, and 1 where it is to rise, -1 where it is to fall.
def first_out(tableau):
    for column in sorted(tableau.lines):
        line = tableau.lines[column]
        worth = worth_of(tableau, line)
        low = tableau.lows[column]
        if low is not None and worth < low[0] * line[0]:
            return (column, 1)
        high = tableau.highs[column]
        if high is not None and worth > high[0] * line[0]:
            return (column, -1)
    return None


def worth_of(tableau, line):
    return sum([times * tableau.points[column] for column, times in line[1].items()])


def first_helping(tableau, line, way):
    for column in sorted(line[1]):
        end = end_towards(tableau, column, way * line[1][column])
        if end is None or end[0] != tableau.points[column]:
            return column
    return None


def end_towards(tableau, column, way):
    return tableau.highs[column] if way > 0 else tableau.lows[column]


# Each column that the line hangs on is at the end that keeps the line from helping.
def line_clash(tableau, line, column, way):
    clash = [(end_towards(tableau, column, -way)[1], line[0])]
    for other in sorted(line[1]):
        clash.append((end_towards(tableau, other, way * line[1][other])[1], abs(line[1][other])))
    return clash


# The column gets loose with this value; the other one, on which it hung, hangs on it.
def change_about(tableau, column, other, number):
    line = tableau.lines.pop(column)
    sign = 1 if line[1][other] > 0 else -1
    times = {column: sign * line[0]}
    for inner, many in line[1].items():
        if inner != other:
            times[inner] = -sign * many
    turned_line = (abs(line[1][other]), times)
    for name in list(tableau.lines):
        tableau.lines[name] = with_put(tableau.lines[name], other, turned_line)
    tableau.lines[other] = turned_line
    tableau.points[column] = number


def with_put(line, column, inner):
    if column not in line[1]:
        return line
    times = dict(line[1])
    many = times.pop(column)
    return lowest(with_line((line[0], times), inner, many))


# The values of all boxes, as a tuple (many, values): a dict of whole numbers, each so many times the box's value.
def point_of(tableau, boxes):
    worths = {}
    for box in boxes:
        column = tableau.columns[((box, 1),)]
        line = tableau.lines.get(column)
        worths[box] = (1, tableau.points[column]) if line is None else (line[0], worth_of(tableau, line))
    many = 1
    for box, worth in worths.items():
        many = many * worth[0] // divisor_of([many, worth[0]])
    point = {}
    for box, worth in worths.items():
        point[box] = worth[1] * (many // worth[0])
    divisor = divisor_of([many] + list(point.values()))
    return (many // divisor, dict([(box, number // divisor) for box, number in point.items()]))


def box_ends(tableau, boxes):
    ends = {}
    for box in boxes:
        column = tableau.columns[((box, 1),)]
        ends[box] = (tableau.lows[column][0], tableau.highs[column][0])
    return ends


# The atoms of each column whose two ends are one number, as tuples (high atom, low atom).
def equal_pairs(tableau):
    pairs = []
    for low, high in zip(tableau.lows, tableau.highs):
        if low is not None and high is not None and low[0] == high[0]:
            pairs.append((high[1], low[1]))
    return pairs


# Whether the atom asks for what the other end of its column forbids.
def is_beyond(tableau, atom):
    number = atom[1][0]
    parts = atom[1][1]
    if len(parts) == 0:
        return number > 0
    if parts[0][1] > 0:
        low = known_end(tableau, tableau.lows, parts)
        return low is not None and low[0] > -number
    high = known_end(tableau, tableau.highs, turned(parts))
    return high is not None and high[0] < number


def known_end(tableau, ends, parts):
    return ends[tableau.columns[parts]] if parts in tableau.columns else None


def keeps_to(tableau, book):
    for parts, column in tableau.columns.items():
        worth = value((0, parts), book)
        if between(worth, tableau.lows[column], tableau.highs[column]) != worth:
            return False
    return True
