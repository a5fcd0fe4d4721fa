"""Parted steps, and straightened weavings [20] [21]."""

from calm.remarks import boxes_in, hands_in
from calm.sums import boxes_of


def parted(program, one, other):
    first = program[2][one]
    second = program[2][other]
    return not (meets(changed_by(first), named_by(second)) or meets(changed_by(second), named_by(first)))


def meets(names, others):
    return any([name in others for name in names])


# A box is named by ("box", name), the place of a hand by ("hand", name).
def changed_by(step):
    return [("hand", step[0])] + [("box", box) for box, one in step[3]]


def named_by(step):
    hands = hands_in(step[2])
    boxes = boxes_in(step[2])
    for box, one in step[3]:
        boxes.extend(boxes_of(one))
    return changed_by(step) + [("hand", hand) for hand in hands] + [("box", box) for box in boxes]


# Like numbers are never parted, so of each number only the first that is left can come next.
def straight(program, numbers):
    waiting = places_by_number(numbers)
    clashes = clashes_among(program, list(waiting))
    told = []
    while len(waiting) > 0:
        number = min([one for one in waiting if is_free(one, waiting, clashes)])
        told.append(number)
        waiting[number].pop(0)
        if len(waiting[number]) == 0:
            waiting.pop(number)
    return told


def places_by_number(numbers):
    places = {}
    for place, number in enumerate(numbers):
        places.setdefault(number, []).append(place)
    return places


def clashes_among(program, numbers):
    clashes = {}
    for one in numbers:
        clashes[one] = [other for other in numbers if other != one and not parted(program, one, other)]
    return clashes


def is_free(number, waiting, clashes):
    place = waiting[number][0]
    return all([other not in waiting or waiting[other][0] > place for other in clashes[number]])
