"""Remarks [5], and what they ask behind a step [6]."""

from calm.sums import boxes_of, put, value

TRUE_ONE = ("and", ())
FALSE_ONE = ("or", ())


def holds(remark, book, places):
    kind = remark[0]
    if kind == "most":
        return value(remark[1], book) <= 0
    if kind == "rest":
        return value(remark[1], book) % remark[2] == 0
    if kind == "at":
        return places[remark[1]] == remark[2]
    if kind == "not":
        return not holds(remark[1], book, places)
    if kind == "and":
        return not any_is(False, remark[1], book, places)
    return any_is(True, remark[1], book, places)


# A loop that ends early: a search asks remarks of very many stands.
def any_is(wanted, members, book, places):
    for member in members:
        if holds(member, book, places) == wanted:
            return True
    return False


def behind(remark, hand, sets, to):
    return asked_ahead(remark, hand, dict(sets), to)


def asked_ahead(remark, hand, sets, to):
    kind = remark[0]
    if kind == "most":
        return ("most", put(remark[1], sets))
    if kind == "rest":
        return ("rest", put(remark[1], sets), remark[2])
    if kind == "at":
        return place_ahead(remark, hand, to)
    if kind == "not":
        return ("not", asked_ahead(remark[1], hand, sets, to))
    return (kind, tuple([asked_ahead(member, hand, sets, to) for member in remark[1]]))


def place_ahead(remark, hand, to):
    if remark[1] != hand:
        return remark
    return TRUE_ONE if remark[2] == to else FALSE_ONE


def members_of(remark):
    if remark[0] == "not":
        return (remark[1],)
    return remark[1] if remark[0] in ("and", "or") else ()


# A loop, not a recursion: what is read is counted here ahead of anything that bounds its depth.
def parts_of(remark):
    parts = []
    waiting = [remark]
    while len(waiting) > 0:
        part = waiting.pop()
        parts.append(part)
        waiting.extend(members_of(part)[::-1])
    return parts


def boxes_from_left(remark):
    boxes = []
    for part in parts_of(remark):
        if part[0] in ("most", "rest"):
            boxes.extend(boxes_of(part[1]))
    return boxes


def ats_from_left(remark):
    return [part for part in parts_of(remark) if part[0] == "at"]


def boxes_in(remark):
    return sorted(set(boxes_from_left(remark)))


def hands_in(remark):
    return sorted(set([at[1] for at in ats_from_left(remark)]))


def parts_in(remark):
    return len(parts_of(remark))
