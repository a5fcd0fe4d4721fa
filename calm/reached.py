"""The stands that weavings reach, and breaches [18] [19]."""

from calm.errors import TooMany
from calm.stands import first_stand, fits, moves


def reached(program, most):
    return list(search(program, most, lambda stand: False)[0])


def breach(program, annotation, most):
    found = search(program, most, lambda stand: len(fits(program, annotation, stand)) > 0)
    if found[1] is None:
        return None
    return (weaving_to(found[0], found[1]), fits(program, annotation, found[1])[0])


# Told is a tuple of links and the first stand that is wanted, or None. Links is a dict from each stand met,
# in their order, to the stand and the step by which it was first met. A stand is asked as soon as it is met,
# so that all of them have been asked when there is one too many.
def search(program, most, wanted):
    first = first_stand(program)
    links = {first: None}
    if wanted(first):
        return (links, first)
    met = [first]
    spot = 0
    while spot < len(met):
        here = met[spot]
        for number, there in moves(program, here):
            if there in links:
                continue
            if len(met) == most:
                raise TooMany(most)
            links[there] = (here, number)
            if wanted(there):
                return (links, there)
            met.append(there)
        spot = spot + 1
    return (links, None)


def weaving_to(links, stand):
    numbers = []
    link = links[stand]
    while link is not None:
        numbers.append(link[1])
        link = links[link[0]]
    return numbers[::-1]
