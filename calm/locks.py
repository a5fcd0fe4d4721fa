"""The locks that are held at places [22]."""

from calm.errors import NoLock


def holding(program):
    told = {}
    for hand, places in program[1]:
        held = held_by(program, hand)
        for place in range(places):
            told[(hand, place)] = held.get(place)
    return told


def held_by(program, hand):
    held = {0: ()}
    met = [0]
    spot = 0
    while spot < len(met):
        here = met[spot]
        for number, step in enumerate(program[2]):
            if step[0] == hand and step[1] == here:
                locks = held_behind(program, number, held[here])
                if step[4] not in held:
                    held[step[4]] = locks
                    met.append(step[4])
                elif held[step[4]] != locks:
                    raise NoLock(number)
        spot = spot + 1
    return held


def held_behind(program, number, held):
    locks = list(held)
    for box, one in program[2][number][3]:
        if box in program[3]:
            takes = one[0] != 0
            if takes == (box in locks):
                raise NoLock(number)
            if takes:
                locks.append(box)
            else:
                locks.remove(box)
    return tuple(sorted(locks))
