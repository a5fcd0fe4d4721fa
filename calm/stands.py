"""Stands, the steps that can be done in them, and weavings [16] [17]."""

from calm.errors import NoStep
from calm.remarks import holds
from calm.sums import value


def first_stand(program):
    return (tuple([0 for hand in program[1]]), tuple([box[4] for box in program[0]]))


def can(program, stand):
    return [number for number, there in moves(program, stand)]


def done(program, stand, number):
    step = program[2][number]
    values = values_behind(program, book_of(program, stand), step)
    return (places_behind(places_of(program, stand), step), values)


def woven(program, numbers):
    stands = [first_stand(program)]
    for place, number in enumerate(numbers):
        there = dict(moves(program, stands[-1]))
        if number not in there:
            raise NoStep(place)
        stands.append(there[number])
    return stands


def fits(program, annotation, stand):
    book = book_of(program, stand)
    places = places_of(program, stand)
    return [hand for hand, place in places.items() if not holds(annotation[(hand, place)], book, places)]


def book_of(program, stand):
    return dict(zip([box[0] for box in program[0]], stand[1]))


def places_of(program, stand):
    return dict(zip([hand[0] for hand in program[1]], stand[0]))


# The numbers of the steps that can be done, rising, each with the stand behind it.
def moves(program, stand):
    book = book_of(program, stand)
    places = places_of(program, stand)
    told = []
    for number, step in enumerate(program[2]):
        if places[step[0]] == step[1] and holds(step[2], book, places):
            values = values_behind(program, book, step)
            if values is not None:
                told.append((number, (places_behind(places, step), values)))
    return told


# None where a box would leave its stretch. Every sum is asked of the old values.
def values_behind(program, book, step):
    sets = dict(step[3])
    values = []
    for box, owner, low, high, start in program[0]:
        new = value(sets[box], book) if box in sets else book[box]
        if box in sets and (new < low or new > high):
            return None
        values.append(new)
    return tuple(values)


def places_behind(places, step):
    return tuple([step[4] if hand == step[0] else place for hand, place in places.items()])
