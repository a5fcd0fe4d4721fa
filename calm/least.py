"""Tables of stretches, and the least ones that are kept [32] [33] [34]."""

from calm.checker import at_least, at_most
from calm.duties import box_rows, given_forms
from calm.errors import TooMany
from calm.maker import answer_of
from calm.remarks import FALSE_ONE
from calm.spans import least_over
from calm.sums import by, minus, value


def stretch_remarks(program, table):
    annotation = {}
    for hand, places in program[1]:
        for place in range(places):
            annotation[(hand, place)] = pairs_remark(program, table[(hand, place)])
    return annotation


def pairs_remark(program, pairs):
    if pairs is None:
        return FALSE_ONE
    members = []
    for box, pair in zip(program[0], pairs):
        members.append(at_least(box[0], pair[0]))
        members.append(at_most(box[0], pair[1]))
    return ("and", tuple(members))


def least_stretches(program, rounds, rows):
    widening = Widening(program, rows)
    many = 0
    while widened_by_round(widening):
        many = many + 1
        if many > rounds:
            raise TooMany(rounds)
    return widening.table


# Asked tells, for each step and place looked at, by which pairs: by the same ones nothing new comes of it.
class Widening:
    def __init__(self, program, rows):
        self.program = program
        self.most = rows
        self.table = first_table(program)
        self.asked = {}


def first_table(program):
    table = {}
    for hand, places in program[1]:
        for place in range(places):
            table[(hand, place)] = None
        table[(hand, 0)] = tuple([(box[4], box[4]) for box in program[0]])
    return table


def widened_by_round(widening):
    before = dict(widening.table)
    for number, step in enumerate(widening.program[2]):
        if widening.table[(step[0], step[1])] is not None:
            widen(widening, number, (step[0], step[4]), [])
            for there in places_of_others(widening.program, step[0]):
                if widening.table[there] is not None:
                    widen(widening, number, there, [there])
    return widening.table != before


def places_of_others(program, hand):
    others = []
    for other, places in program[1]:
        if other != hand:
            others.extend([(other, place) for place in range(places)])
    return others


# There is the place whose pairs are made wide enough; others has it where another hand stands there already.
def widen(widening, number, there, others):
    step = widening.program[2][number]
    stood = [(step[0], step[1])] + others
    pairs = [widening.table[place] for place in stood]
    if widening.asked.get((number, there, len(others))) == pairs:
        return
    widening.asked[(number, there, len(others))] = pairs
    remarks = dict(zip(stood, [pairs_remark(widening.program, one) for one in pairs]))
    forms = given_forms(widening.program, remarks, step, others)
    sums = sums_behind(widening.program, step)
    book = book_or_none(widening, forms + beyond_forms(sums, widening.table[there]))
    if book is not None:
        ends = ends_within(widening.program, pairs)
        wider = [wide_enough(widening, forms, one, book, ends) for one in sums]
        widening.table[there] = taken_together(wider, widening.table[there])


# What each box, in order, comes to behind the step.
def sums_behind(program, step):
    sets = dict(step[3])
    return [sets.get(box[0], (0, ((box[0], 1),))) for box in program[0]]


# That a box gets beyond its pair: where there is no such stand, the pairs are wide enough. There may be no pairs yet.
def beyond_forms(sums, pairs):
    if pairs is None:
        return []
    members = []
    for one, pair in zip(sums, pairs):
        members.append(no_more_than(one, pair[0] - 1))
        members.append(no_more_than(by(one, -1), -pair[1] - 1))
    return [("or", tuple(members))]


def no_more_than(one, number):
    return ("most", minus(one, (number, ())))


def book_or_none(widening, forms):
    answer = answer_of(box_rows(widening.program), forms, widening.most)
    return answer[1] if answer[0] == "book" else None


# The ends of boxes where all of these pairs hold.
def ends_within(program, several):
    ends = {}
    for spot, box in enumerate(program[0]):
        ends[box[0]] = (max([pairs[spot][0] for pairs in several]), min([pairs[spot][1] for pairs in several]))
    return ends


def wide_enough(widening, forms, one, book, ends):
    start = value(one, book)
    low = least_value(widening, forms, one, start, least_over(one, ends))
    turned = by(one, -1)
    return (low, -least_value(widening, forms, turned, -start, least_over(turned, ends)))


# The least value that the sum has in a stand, start being one such, floor no more than any. It is asked first whether
# there is any below the start, then whether the floor is reached, as it mostly is so or so.
def least_value(widening, forms, one, start, floor):
    low = start
    bottom = floor
    aims = [floor, start - 1]
    while bottom < low:
        aim = aims.pop() if len(aims) > 0 else (bottom + low) // 2
        book = book_or_none(widening, forms + [no_more_than(one, aim)])
        if book is None:
            bottom = aim + 1
        else:
            low = value(one, book)
    return low


def taken_together(wider, pairs):
    if pairs is None:
        return tuple(wider)
    return tuple([(min(one[0], other[0]), max(one[1], other[1])) for one, other in zip(wider, pairs)])
