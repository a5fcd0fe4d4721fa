"""Stands listed as remarks, and the finite answer [35] [36]."""

from calm.checker import at_least, at_most, laid_in
from calm.duties import box_rows, duties_of, duty_forms
from calm.errors import TooMany
from calm.maker import answer_of
from calm.reached import breach, reached

MAKERS_MOST = 1000000


def listed_remark(program, stands, hand, place):
    spot = [name for name, places in program[1]].index(hand)
    listed = [stand_remark(program, stand, hand) for stand in stands if stand[0][spot] == place]
    return listed[0] if len(listed) == 1 else ("or", tuple(listed))


def stand_remark(program, stand, hand):
    members = []
    for box, number in zip(program[0], stand[1]):
        members.append(at_most(box[0], number))
        members.append(at_least(box[0], number))
    for other, place in zip(program[1], stand[0]):
        if other[0] != hand:
            members.append(("at", other[0], place))
    return ("and", tuple(members))


def finite_answer(program, annotation, most):
    found = breach(program, annotation, most)
    if found is not None:
        return ("broken", found[0], found[1])
    listed = with_listed(program, annotation, reached(program, most))
    papers = [(duty, paper_of(program, listed, duty)) for duty in duties_of(program)]
    return ("shown", listed, papers)


def with_listed(program, annotation, stands):
    listed = {}
    for hand, places in program[1]:
        for place in range(places):
            remark = listed_remark(program, stands, hand, place)
            listed[(hand, place)] = ("and", (remark, annotation[(hand, place)]))
    return listed


# The first or of a step's forms is that of the stands listed at its from: with one of them laid in, all boxes and
# places are known, and the maker is never refused. One stand alone is no or, but known from the first.
def paper_of(program, annotation, duty):
    stretches = box_rows(program)
    forms = duty_forms(program, annotation, duty)
    try:
        return answer_of(stretches, forms, MAKERS_MOST)[1]
    except TooMany:
        members = laid_in(([], []), forms)[1][0]
    papers = [answer_of(stretches, forms + [member], MAKERS_MOST)[1] for member in members]
    return ("or", 0, tuple(papers))
