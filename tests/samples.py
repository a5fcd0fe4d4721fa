"""Sums, remarks, trees and texts for the tests, the same at each run."""

import itertools
import random
import re

BOXES = ("a", "ab", "abc", "b", "b2", "orx", "andy", "notx", "x", "zzzzzzzz")
HANDS = ("h", "h2", "hand1", "left")
LABELS = ("l", "top", "atx", "end2")
NUMBERS = (-4, -3, -2, -1, 0, 1, 2, 3, 4)
GREAT = (999999999, -999999999, 999999998, 500000000)


def source_of(seed):
    return random.Random(seed)


def some_number(rng):
    return rng.choice(GREAT) if rng.random() < 0.1 else rng.choice(NUMBERS)


def some_sum(rng):
    boxes = sorted(rng.sample(BOXES, rng.randrange(4)))
    parts = [(box, some_number(rng) or 1) for box in boxes]
    return (some_number(rng), tuple(parts))


def some_leaf(rng, places):
    kind = rng.choice(("most", "most", "rest", "at", "and", "or"))
    if kind == "most":
        return ("most", some_sum(rng))
    if kind == "rest":
        return ("rest", some_sum(rng), rng.randrange(2, 13))
    if kind == "at":
        return ("at", rng.choice(HANDS), rng.choice(places))
    return (kind, ())


def some_remark(rng, deep, places):
    if deep == 0 or rng.random() < 0.2:
        return some_leaf(rng, places)
    kind = rng.choice(("and", "or", "not"))
    if kind == "not":
        return ("not", some_remark(rng, deep - 1, places))
    many = rng.randrange(2, 4)
    return (kind, tuple(some_remark(rng, deep - 1, places) for _ in range(many)))


def some_tree_remark(rng):
    return some_remark(rng, 2, LABELS)


def some_sets(rng):
    boxes = rng.sample(BOXES, rng.randrange(1, 4))
    return tuple((box, some_sum(rng)) for box in boxes)


def some_simple(rng):
    word = rng.choice(("set", "wait", "take", "give"))
    if word == "set":
        return ("set", some_sets(rng))
    if word == "wait":
        return ("wait", some_tree_remark(rng))
    return (word, rng.choice(BOXES))


def some_block(rng, deep):
    word = rng.choice(("if", "while", "rounds", "either"))
    if word == "if":
        return ("if", some_tree_remark(rng), some_rows(rng, deep), some_rows(rng, deep))
    if word == "while":
        return ("while", some_tree_remark(rng), some_rows(rng, deep))
    if word == "rounds":
        return ("rounds", rng.randrange(10), some_rows(rng, deep))
    return ("either", tuple(some_rows(rng, deep) for _ in range(rng.randrange(2, 5))))


def some_mark(rng):
    if rng.random() < 0.5:
        return ("label", rng.choice(LABELS))
    return ("say", some_tree_remark(rng))


def some_rows(rng, deep):
    rows = []
    for _ in range(rng.randrange(3)):
        for _ in range(rng.randrange(2)):
            rows.append(some_mark(rng))
        rows.append(some_block(rng, deep - 1) if deep > 0 and rng.random() < 0.6 else some_simple(rng))
    return rows


def some_box(rng):
    ends = sorted(rng.choice((0, 1, -1, 7, -12, 10 ** 30, -10 ** 30)) for _ in range(3))
    return (rng.choice(BOXES), ends[0], ends[2], ends[1])


def some_hand(rng):
    rows = some_rows(rng, 5)
    marks = [some_mark(rng) for _ in range(rng.randrange(3))]
    owns = [some_box(rng) for _ in range(rng.randrange(3))]
    return (rng.choice(HANDS), owns, rows + marks)


def some_tree(rng):
    boxes = [some_box(rng) for _ in range(rng.randrange(4))]
    locks = [rng.choice(BOXES) for _ in range(rng.randrange(3))]
    return (boxes, locks, [some_hand(rng) for _ in range(rng.randrange(1, 4))])


def pieces_of(text):
    return re.findall(r"[a-z0-9]+|<=|>=|[^ ]", text)


def with_gaps(text, gap):
    """The pieces of one row, a gap between each two; two words keep a blank at least."""
    row = ""
    for piece in pieces_of(text):
        between = gap()
        if row and row[-1].isalnum() and piece[0].isalnum():
            between = between or " "
        row += between + piece
    return row + gap()


def tight(text):
    return with_gaps(text, lambda: "")


def strewn(text, rng):
    return with_gaps(text, lambda: " " * rng.choice((0, 0, 1, 1, 2, 7)))


# Small programs and remarks over them, whose stands can all be gone through.

def small_sum(rng, boxes):
    named = sorted(rng.sample(boxes, rng.randrange(min(3, len(boxes) + 1))))
    return (rng.randrange(-3, 4), tuple((box, rng.choice((-2, -1, 1, 1, 2))) for box in named))


def small_leaf(rng, boxes, hands):
    kind = rng.choice(("most", "most", "most", "rest", "at", "and", "or"))
    if kind == "most":
        return ("most", small_sum(rng, boxes))
    if kind == "rest":
        return ("rest", small_sum(rng, boxes), rng.choice((2, 2, 3, 4, 12)))
    if kind == "at":
        hand, places = rng.choice(hands)
        return ("at", hand, rng.randrange(places + 1))
    return (kind, ())


def small_remark(rng, deep, boxes, hands):
    if deep == 0 or rng.random() < 0.3:
        return small_leaf(rng, boxes, hands)
    kind = rng.choice(("and", "or", "not"))
    if kind == "not":
        return ("not", small_remark(rng, deep - 1, boxes, hands))
    return (kind, tuple(small_remark(rng, deep - 1, boxes, hands) for _ in range(rng.randrange(2, 4))))


def step_sum(rng, box, boxes):
    kind = rng.choice(("near", "near", "plain", "any"))
    if kind == "any":
        return small_sum(rng, boxes)
    return (rng.choice((-1, 0, 1)), ((box, 1),) if kind == "near" else ())


def small_step(rng, boxes, hands):
    hand, places = rng.choice(hands)
    many = min(rng.choice((0, 0, 1, 1, 1, 2, 3)), len(boxes))
    sets = [(box, step_sum(rng, box, boxes)) for box in sorted(rng.sample(boxes, many))]
    guard = ("and", ()) if rng.random() < 0.6 else small_remark(rng, 1, boxes, hands)
    return (hand, rng.randrange(places), guard, tuple(sets), rng.randrange(places))


def small_program(rng):
    boxes = []
    for name in ("x", "y", "z")[:rng.randrange(1, 4)]:
        low = rng.randrange(-2, 2)
        high = low + rng.randrange(3)
        boxes.append((name, rng.choice(("", "p")), low, high, rng.randrange(low, high + 1)))
    hands = [(name, rng.randrange(1, 4)) for name in ("p", "q", "r")[:rng.randrange(1, 4)]]
    names = [box[0] for box in boxes]
    steps = [small_step(rng, names, hands) for _ in range(rng.randrange(1, 13))]
    return (boxes, hands, steps, ())


def small_annotation(rng, program, deep=2):
    names = [box[0] for box in program[0]]
    annotation = {}
    for hand, places in program[1]:
        for place in range(places):
            remark = small_remark(rng, deep, names, program[1])
            annotation[(hand, place)] = remark if rng.random() < 0.5 else ("and", ())
    return annotation


def all_stands(program):
    places = itertools.product(*(range(many) for hand, many in program[1]))
    values = list(itertools.product(*(range(box[2], box[3] + 1) for box in program[0])))
    return [(place, value) for place in places for value in values]


def books_within(rows):
    """All books with each box of the rows within its stretch."""
    for values in itertools.product(*(range(low, high + 1) for box, low, high in rows)):
        yield dict(zip((box for box, low, high in rows), values))


# Forms over rows, ands and ors of none, one or more.

def form_sum(rng, boxes, greatest):
    named = sorted(rng.sample(boxes, rng.randrange(len(boxes) + 1)))
    times = [times for times in range(-greatest, greatest + 1) if times]
    return (rng.randrange(-3 * greatest, 3 * greatest + 1), tuple((box, rng.choice(times)) for box in named))


def some_form(rng, deep, boxes, greatest):
    if deep == 0 or rng.random() < 0.2:
        one = form_sum(rng, boxes, greatest)
        return ("most", one) if rng.random() < 0.7 else ("rest", one, rng.randrange(2, 13))
    many = rng.choice((0, 1, 2, 2, 3, 3))
    return (rng.choice(("and", "or")), tuple(some_form(rng, deep - 1, boxes, greatest) for _ in range(many)))


def zero_form(one):
    """That a sum is 0."""
    return ("and", (("most", one), ("most", (-one[0], tuple((box, -times) for box, times in one[1])))))


def some_stretches(rng, names):
    rows = []
    for name in rng.sample(names, rng.randrange(len(names) + 1)):
        low = rng.randrange(-6, 6)
        rows.append((name, low, low + rng.choice((0, 0, 1, 2, 3, 5))))
    return rows


def many_books(rows):
    many = 1
    for box, low, high in rows:
        many *= high - low + 1
    return many


# Small programs as texts, whose names are all known.

def known_remark(rng, deep, boxes, hands):
    """A remark whose ats name the labels that each hand has."""
    remark = small_remark(rng, deep, boxes, [(hand, 1) for hand in hands])
    return with_labels(rng, remark)


def with_labels(rng, remark):
    if remark[0] == "at":
        return ("at", remark[1], rng.choice(("first", "last")))
    if remark[0] == "not":
        return ("not", with_labels(rng, remark[1]))
    if remark[0] in ("and", "or"):
        return (remark[0], tuple(with_labels(rng, member) for member in remark[1]))
    return remark


def known_rows(rng, deep, boxes, locks, hands):
    rows = []
    for _ in range(rng.randrange(1, 4)):
        if rng.random() < 0.25:
            rows.append(("say", known_remark(rng, 1, boxes, hands)))
        rows.append(known_statement(rng, deep, boxes, locks, hands))
    return rows


def known_statement(rng, deep, boxes, locks, hands):
    settable = [box for box in boxes if box not in locks]
    word = rng.choice(("set", "set", "set", "wait", "take", "give") + (("if", "while", "either") if deep else ()))
    if word in ("take", "give") and locks:
        return (word, rng.choice(locks))
    if word in ("if", "while", "either"):
        inner = [known_rows(rng, deep - 1, boxes, locks, hands) for _ in range(2)]
        if word == "either":
            return ("either", tuple(inner))
        return (word, known_remark(rng, 1, boxes, hands), *inner[:2 if word == "if" else 1])
    if word == "wait":
        return ("wait", known_remark(rng, 1, boxes, hands))
    box = rng.choice(settable)
    return ("set", ((box, step_sum(rng, box, boxes)),))


def small_tree(rng):
    boxes = [("x", 0, rng.randrange(1, 4), 0), ("y", -1, 1, rng.randrange(-1, 2))][:rng.randrange(1, 3)]
    locks = ["l"][:rng.randrange(2)]
    names = [box[0] for box in boxes] + locks
    hands = ["p", "q", "r"][:rng.choice((1, 2, 2, 3))]
    told = []
    for hand in hands:
        owns = [("k" + hand, 0, 1, rng.randrange(2))] if rng.random() < 0.3 else []
        known = names + [own[0] for own in owns]
        rows = [("label", "first")] + known_rows(rng, 1 if len(hands) < 3 else 0, known, locks, hands)
        rows.append(("label", "last"))
        if rng.random() < 0.3:
            rows.append(("say", known_remark(rng, 2, names, hands)))
        told.append((hand, owns, rows))
    return (boxes, locks, told)
