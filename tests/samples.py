"""Sums, remarks, trees and texts for the tests, the same at each run."""

import random
import re

BOXES = ("a", "ab", "abc", "b", "b2", "orx", "andy", "notx", "x", "zzzzzzzz")
HANDS = ("h", "h2", "hand1", "left")
LABELS = ("l", "top", "atx", "end2")
NUMBERS = (-4, -3, -2, -1, 0, 1, 2, 3, 4)
GREAT = (999999999, -999999999, 999999998, 500000000)


def source_of(seed):
    return random.Random(seed)


def some_number(rng):
    return rng.choice(GREAT) if rng.random() < 0.1 else rng.choice(NUMBERS)


def some_sum(rng):
    boxes = sorted(rng.sample(BOXES, rng.randrange(4)))
    parts = [(box, some_number(rng) or 1) for box in boxes]
    return (some_number(rng), tuple(parts))


def some_leaf(rng, places):
    kind = rng.choice(("most", "most", "rest", "at", "and", "or"))
    if kind == "most":
        return ("most", some_sum(rng))
    if kind == "rest":
        return ("rest", some_sum(rng), rng.randrange(2, 13))
    if kind == "at":
        return ("at", rng.choice(HANDS), rng.choice(places))
    return (kind, ())


def some_remark(rng, deep, places):
    if deep == 0 or rng.random() < 0.2:
        return some_leaf(rng, places)
    kind = rng.choice(("and", "or", "not"))
    if kind == "not":
        return ("not", some_remark(rng, deep - 1, places))
    many = rng.randrange(2, 4)
    return (kind, tuple(some_remark(rng, deep - 1, places) for _ in range(many)))


def some_tree_remark(rng):
    return some_remark(rng, 2, LABELS)


def some_sets(rng):
    boxes = rng.sample(BOXES, rng.randrange(1, 4))
    return tuple((box, some_sum(rng)) for box in boxes)


def some_simple(rng):
    word = rng.choice(("set", "wait", "take", "give"))
    if word == "set":
        return ("set", some_sets(rng))
    if word == "wait":
        return ("wait", some_tree_remark(rng))
    return (word, rng.choice(BOXES))


def some_block(rng, deep):
    word = rng.choice(("if", "while", "rounds", "either"))
    if word == "if":
        return ("if", some_tree_remark(rng), some_rows(rng, deep), some_rows(rng, deep))
    if word == "while":
        return ("while", some_tree_remark(rng), some_rows(rng, deep))
    if word == "rounds":
        return ("rounds", rng.randrange(10), some_rows(rng, deep))
    return ("either", tuple(some_rows(rng, deep) for _ in range(rng.randrange(2, 5))))


def some_mark(rng):
    if rng.random() < 0.5:
        return ("label", rng.choice(LABELS))
    return ("say", some_tree_remark(rng))


def some_rows(rng, deep):
    rows = []
    for _ in range(rng.randrange(3)):
        for _ in range(rng.randrange(2)):
            rows.append(some_mark(rng))
        rows.append(some_block(rng, deep - 1) if deep > 0 and rng.random() < 0.6 else some_simple(rng))
    return rows


def some_box(rng):
    ends = sorted(rng.choice((0, 1, -1, 7, -12, 10 ** 30, -10 ** 30)) for _ in range(3))
    return (rng.choice(BOXES), ends[0], ends[2], ends[1])


def some_hand(rng):
    rows = some_rows(rng, 5)
    marks = [some_mark(rng) for _ in range(rng.randrange(3))]
    owns = [some_box(rng) for _ in range(rng.randrange(3))]
    return (rng.choice(HANDS), owns, rows + marks)


def some_tree(rng):
    boxes = [some_box(rng) for _ in range(rng.randrange(4))]
    locks = [rng.choice(BOXES) for _ in range(rng.randrange(3))]
    return (boxes, locks, [some_hand(rng) for _ in range(rng.randrange(1, 4))])


def pieces_of(text):
    return re.findall(r"[a-z0-9]+|<=|>=|[^ ]", text)


def with_gaps(text, gap):
    """The pieces of one row, a gap between each two; two words keep a blank at least."""
    row = ""
    for piece in pieces_of(text):
        between = gap()
        if row and row[-1].isalnum() and piece[0].isalnum():
            between = between or " "
        row += between + piece
    return row + gap()


def tight(text):
    return with_gaps(text, lambda: "")


def strewn(text, rng):
    return with_gaps(text, lambda: " " * rng.choice((0, 0, 1, 1, 2, 7)))
