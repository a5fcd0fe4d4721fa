"""Forms: remarks without ats and nots, over boxes and the places of hands [23] [24]."""

from calm.remarks import holds, parts_in
from calm.sums import minus

# What an and becomes against itself, and an or.
TURNED = {"and": "or", "or": "and"}


def form_true(form, book):
    return holds(form, book, {})


def form_parts(form):
    return parts_in(form)


def place_box(hand):
    return "@" + hand


def equal_form(box, number):
    return ("and", (("most", (-number, ((box, 1),))), ("most", (number, ((box, -1),)))))


def unequal_form(box, number):
    return ("or", (("most", (1 - number, ((box, 1),))), ("most", (number + 1, ((box, -1),)))))


def plain_form(remark):
    kind = remark[0]
    if kind == "at":
        return equal_form(place_box(remark[1]), remark[2])
    if kind == "not":
        return against_form(remark[1])
    if kind in ("and", "or"):
        return (kind, tuple([plain_form(member) for member in remark[1]]))
    return remark


def against_form(remark):
    kind = remark[0]
    if kind == "most":
        return ("most", minus((1, ()), remark[1]))
    if kind == "rest":
        return ("or", tuple([("rest", minus(remark[1], (k, ())), remark[2]) for k in range(1, remark[2])]))
    if kind == "at":
        return unequal_form(place_box(remark[1]), remark[2])
    if kind == "not":
        return plain_form(remark[1])
    return (TURNED[kind], tuple([against_form(member) for member in remark[1]]))
