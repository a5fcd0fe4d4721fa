"""Remarks as texts [8]."""

from calm.errors import NoText
from calm.remarks import FALSE_ONE, TRUE_ONE, parts_in
from calm.sums import minus, plus
from calm.sumtexts import bounded, next_sum, show_sum
from calm.tokens import Reader, is_name

# What stands in square brackets within a remark of the kind.
BRACKETED = {"and": ("and", "or"), "or": ("or",), "not": ("and", "or")}
MOST_PARTS = 60
MOST_OPEN = 20
GREATEST_PLACE = 99
LEAST_REST = 2
GREATEST_REST = 12


def show_remark(remark):
    kind = remark[0]
    if kind == "most":
        return show_most(remark[1])
    if kind == "rest":
        return str(remark[2]) + " divides " + show_sum(remark[1])
    if kind == "at":
        return "at " + remark[1] + " " + str(remark[2])
    if kind == "not":
        return "not " + show_member(remark[1], kind)
    if remark[1] == ():
        return "true" if kind == "and" else "false"
    joint = " and " if kind == "and" else " or "
    return joint.join([show_member(member, kind) for member in remark[1]])


def show_most(one):
    return show_sum((0, one[1])) + " <= " + str(-one[0])


def show_member(member, kind):
    text = show_remark(member)
    if member[0] in BRACKETED[kind] and member[1] != ():
        return f"[{text}]"
    return text


def read_remark(text):
    reader = Reader(text, 1)
    remark = next_remark(reader, True)
    reader.need_end()
    return remark


# Numbered tells whether the place of an at may be a number: in a program's text it is a label.
def next_remark(reader, numbered):
    remark = next_or(reader, numbered, 0)
    if parts_in(remark) > MOST_PARTS:
        raise NoText(reader.row)
    return remark


def next_or(reader, numbered, opened):
    members = [next_and(reader, numbered, opened)]
    while reader.took("or"):
        members.append(next_and(reader, numbered, opened))
    return joined("or", members)


def next_and(reader, numbered, opened):
    members = [next_not(reader, numbered, opened)]
    while reader.took("and"):
        members.append(next_not(reader, numbered, opened))
    return joined("and", members)


def joined(kind, members):
    return members[0] if len(members) == 1 else (kind, tuple(members))


# A loop, not a recursion: a row has room for some hundred of them.
def next_not(reader, numbered, opened):
    many = 0
    while reader.took("not"):
        many = many + 1
    remark = next_single(reader, numbered, opened)
    for turn in range(many):
        remark = ("not", remark)
    return remark


def next_single(reader, numbered, opened):
    if reader.took("["):
        return next_bracketed(reader, numbered, opened + 1)
    if reader.took("true"):
        return TRUE_ONE
    if reader.took("false"):
        return FALSE_ONE
    if reader.took("at"):
        return next_at(reader, numbered)
    if reader.seen(1) == "divides":
        return next_rest(reader)
    return next_comparison(reader)


def next_bracketed(reader, numbered, opened):
    if opened > MOST_OPEN:
        raise NoText(reader.row)
    remark = next_or(reader, numbered, opened)
    reader.need("]")
    return remark


def next_at(reader, numbered):
    hand = reader.next_name()
    if numbered and not is_name(reader.seen(0)):
        return ("at", hand, reader.next_number(0, GREATEST_PLACE))
    return ("at", hand, reader.next_name())


def next_rest(reader):
    divisor = reader.next_number(LEAST_REST, GREATEST_REST)
    reader.need("divides")
    return ("rest", next_sum(reader), divisor)


def next_comparison(reader):
    left = next_sum(reader)
    sign = reader.next_token()
    if sign not in ("<=", "<", ">=", ">", "="):
        raise NoText(reader.row)
    right = next_sum(reader)
    if sign == "=":
        return ("and", (most_of(reader, left, right, 0), most_of(reader, right, left, 0)))
    beyond = 1 if sign in ("<", ">") else 0
    if sign in ("<=", "<"):
        return most_of(reader, left, right, beyond)
    return most_of(reader, right, left, beyond)


def most_of(reader, less, more, beyond):
    one = plus(minus(less, more), (beyond, ()))
    return ("most", bounded(reader, one))
