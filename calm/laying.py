"""Trees laid out as programs [11] to [15]."""

from calm.errors import NoName, TooMany, Twice
from calm.remarks import TRUE_ONE, ats_from_left, boxes_from_left
from calm.sums import boxes_of

MARKS = ("label", "say")
MOST_PLACES = 24
MOST_STEPS = 40
BEGIN = 0
END = 1


def counted(tree):
    pairs = [counted_rows(rows, 1) for name, owns, rows in tree[2]]
    return added(2 * len(pairs), 0, pairs)


def added(places, steps, pairs):
    return (places + sum([pair[0] for pair in pairs]), steps + sum([pair[1] for pair in pairs]))


# Of rows that come so many times, one behind the other; each but the last ends at a place of its own.
def counted_rows(rows, many):
    pairs = [counted_statement(row) for row in rows if row[0] not in MARKS]
    ends = many * len(pairs)
    if ends == 0:
        return (0, 1)
    once = added(0, 0, pairs)
    return (many * once[0] + ends - 1, many * once[1])


def counted_statement(statement):
    if statement[0] == "rounds":
        return counted_rows(statement[2], statement[1])
    blocks = blocks_of(statement)
    own = 2 if statement[0] in ("if", "while") else max(1, len(blocks))
    return added(len(blocks), own, [counted_rows(rows, 1) for rows in blocks])


# The rows of a statement for which it makes places to begin at.
def blocks_of(statement):
    if statement[0] == "if":
        return [statement[2]] if len(statement[3]) == 0 else [statement[2], statement[3]]
    if statement[0] == "while":
        return [statement[2]]
    return list(statement[1]) if statement[0] == "either" else []


def lay_out(tree):
    refuse_twice(names_in(tree))
    refuse_too_many(counted(tree))
    hands = [laid_hand(tree, number) for number in range(1, len(tree[2]) + 1)]
    labels = labels_of(hands)
    for hand in hands:
        refuse_unknown_ats(hand, [other.name for other in hands], labels)
    return (program_of(tree, hands, labels), annotation_of(hands, labels))


def names_in(tree):
    names = [box[0] for box in tree[0]] + list(tree[1])
    for name, owns, rows in tree[2]:
        names.append(name)
        names.extend([box[0] for box in owns])
    return names


def refuse_twice(names):
    for spot, name in enumerate(names):
        if name in names[:spot]:
            raise Twice(name)


def refuse_too_many(counts):
    if counts[0] > MOST_PLACES:
        raise TooMany(MOST_PLACES)
    if counts[1] > MOST_STEPS:
        raise TooMany(MOST_STEPS)


# One hand while it is laid out: what it may name, and what has been made of its rows so far.
# Labels in its remarks stay as they are till all hands are laid out, as an at may speak of a later one.
class Hand:
    def __init__(self, tree, number):
        self.name = tree[2][number - 1][0]
        self.number = number
        self.locks = list(tree[1])
        self.settable = [box[0] for box in tree[0] + tree[2][number - 1][1]]
        self.readable = self.settable + self.locks
        self.sayable = [box[0] for box in boxes_in_tree(tree)]
        self.places = 2
        self.steps = []
        self.labels = {}
        self.says = {}
        self.remarks = []

    def new_place(self):
        self.places = self.places + 1
        return self.places - 1

    def new_step(self, start, guard, sets, to):
        self.steps.append((self.name, start, guard, sets, to))


def laid_hand(tree, number):
    hand = Hand(tree, number)
    lay_rows(hand, tree[2][number - 1][2], BEGIN, END)
    return hand


def lay_rows(hand, rows, start, to):
    left = len([row for row in rows if row[0] not in MARKS])
    if left == 0:
        hand.new_step(start, TRUE_ONE, (), to)
    here = start
    for row in rows:
        if row[0] in MARKS:
            lay_mark(hand, row, here if left > 0 else to)
        else:
            left = left - 1
            end = hand.new_place() if left > 0 else to
            lay_statement(hand, row, here, end)
            here = end


def lay_mark(hand, mark, place):
    if mark[0] == "say":
        hand.says.setdefault(place, []).append(noted(hand, mark[1], hand.sayable))
        return
    if mark[1] in hand.labels:
        raise Twice(mark[1])
    hand.labels[mark[1]] = place


def lay_statement(hand, statement, start, to):
    word = statement[0]
    if word == "rounds":
        lay_rows(hand, statement[2] * statement[1], start, to)
    elif word == "either":
        lay_blocks(hand, statement, [TRUE_ONE for way in statement[1]], start, to)
    elif word in ("if", "while"):
        remark = noted(hand, statement[1], hand.readable)
        lay_blocks(hand, statement, [remark, ("not", remark)], start, to)
    elif word == "wait":
        hand.new_step(start, noted(hand, statement[1], hand.readable), (), to)
    elif word == "set":
        hand.new_step(start, TRUE_ONE, checked_sets(hand, statement[1]), to)
    else:
        lay_lock(hand, word, statement[1], start, to)


# There may be one guard more than blocks: it leads past them.
def lay_blocks(hand, statement, guards, start, to):
    blocks = blocks_of(statement)
    firsts = [hand.new_place() for rows in blocks]
    for guard, first in zip(guards, firsts + [to]):
        hand.new_step(start, guard, (), first)
    for first, rows in zip(firsts, blocks):
        lay_rows(hand, rows, first, start if statement[0] == "while" else to)


def lay_lock(hand, word, lock, start, to):
    refuse_unknown([lock], hand.locks)
    if word == "take":
        hand.new_step(start, ("most", (0, ((lock, 1),))), ((lock, (hand.number, ())),), to)
    else:
        hand.new_step(start, TRUE_ONE, ((lock, (0, ())),), to)


def checked_sets(hand, sets):
    for box, one in sets:
        refuse_unknown([box], hand.settable)
        refuse_unknown(boxes_of(one), hand.readable)
    return tuple(sorted(sets))


# Its ats are looked at behind all hands, in the order in which remarks are noted.
def noted(hand, remark, names):
    refuse_unknown(boxes_from_left(remark), names)
    hand.remarks.append(remark)
    return remark


def refuse_unknown(boxes, names):
    for box in boxes:
        if box not in names:
            raise NoName(box)


def labels_of(hands):
    labels = {}
    for hand in hands:
        for label, place in hand.labels.items():
            labels[(hand.name, label)] = place
    return labels


def refuse_unknown_ats(hand, names, labels):
    for remark in hand.remarks:
        for at in ats_from_left(remark):
            if at[1] not in names:
                raise NoName(at[1])
            if (at[1], at[2]) not in labels:
                raise NoName(at[2])


def placed(remark, labels):
    kind = remark[0]
    if kind == "at":
        return ("at", remark[1], labels[(remark[1], remark[2])])
    if kind == "not":
        return ("not", placed(remark[1], labels))
    if kind in ("and", "or"):
        return (kind, tuple([placed(member, labels) for member in remark[1]]))
    return remark


def program_of(tree, hands, labels):
    steps = []
    for hand in hands:
        steps.extend([(name, start, placed(guard, labels), sets, to) for name, start, guard, sets, to in hand.steps])
    return (boxes_in_tree(tree), [(hand.name, hand.places) for hand in hands], steps, tuple(tree[1]))


def boxes_in_tree(tree):
    boxes = [owned(box, "") for box in tree[0]]
    boxes.extend([(lock, "", 0, len(tree[2]), 0) for lock in tree[1]])
    for name, owns, rows in tree[2]:
        boxes.extend([owned(box, name) for box in owns])
    return boxes


def owned(box, owner):
    return (box[0], owner, box[1], box[2], box[3])


def annotation_of(hands, labels):
    annotation = {}
    for hand in hands:
        for place in range(hand.places):
            said = [placed(remark, labels) for remark in hand.says.get(place, [])]
            annotation[(hand.name, place)] = said_remark(said)
    return annotation


def said_remark(said):
    if len(said) == 1:
        return said[0]
    return ("and", tuple(said))
