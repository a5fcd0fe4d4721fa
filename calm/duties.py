"""The duties of a program with its annotation, and their forms [25] [26]."""

from calm.forms import against_form, equal_form, place_box, plain_form
from calm.remarks import behind
from calm.sums import minus


def box_rows(program):
    rows = [(box, low, high) for box, owner, low, high, start in program[0]]
    rows.extend([(place_box(hand), 0, places - 1) for hand, places in program[1]])
    return rows


def duties_of(program):
    numbers = list(range(len(program[2])))
    duties = [("start", hand) for hand, places in program[1]]
    duties.extend([("own", number) for number in numbers])
    for number in numbers:
        duties.extend(others_of(program, number))
    return duties


def others_of(program, number):
    duties = []
    for hand, places in program[1]:
        if hand != program[2][number][0]:
            duties.extend([("other", number, hand, place) for place in range(places)])
    return duties


def duty_forms(program, annotation, duty):
    if duty[0] == "start":
        return start_forms(program, annotation, duty[1])
    step = program[2][duty[1]]
    if duty[0] == "own":
        asked = annotation[(step[0], step[4])]
        return step_forms(program, annotation, step, [], asked)
    there = (duty[2], duty[3])
    return step_forms(program, annotation, step, [there], annotation[there])


def start_forms(program, annotation, hand):
    forms = [equal_form(box[0], box[4]) for box in program[0]]
    forms.extend([equal_form(place_box(other), 0) for other, places in program[1]])
    forms.append(against_form(annotation[(hand, 0)]))
    return forms


# Others are the places, tuples (hand, place), at which other hands are taken to stand.
def step_forms(program, annotation, step, others, asked):
    forms = given_forms(program, annotation, step, others)
    forms.append(against_form(behind(asked, step[0], step[3], step[4])))
    return forms


# That the hands stand so, their remarks hold, and the step can be done.
def given_forms(program, annotation, step, others):
    stood = [(step[0], step[1])] + others
    forms = [plain_form(("at", hand, place)) for hand, place in stood]
    forms.extend([plain_form(annotation[there]) for there in stood])
    forms.append(plain_form(step[2]))
    forms.extend(set_forms(program, step[3]))
    return forms


def set_forms(program, sets):
    ends = {}
    for box, owner, low, high, start in program[0]:
        ends[box] = ((low, ()), (high, ()))
    return [within_form(one, ends[box][0], ends[box][1]) for box, one in sets]


def within_form(one, low, high):
    return ("and", (("most", minus(low, one)), ("most", minus(one, high))))
