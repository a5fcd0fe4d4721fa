"""Programs written as texts [10]."""

from calm.remarktexts import show_remark
from calm.sumtexts import show_sum


def show_program(tree):
    rows = [box_row("box", box) for box in tree[0]]
    rows.extend([f"lock {name}" for name in tree[1]])
    for hand in tree[2]:
        rows.extend(hand_rows(hand))
    return "\n".join(rows)


def box_row(word, box):
    return word + " " + " ".join([str(field) for field in box])


def hand_rows(hand):
    head = ["hand " + hand[0]]
    owns = [box_row("own", box) for box in hand[1]]
    return head + owns + block_rows(hand[2]) + ["end"]


def block_rows(statements):
    rows = []
    for statement in statements:
        rows.extend(statement_rows(statement))
    return rows


def statement_rows(statement):
    word = statement[0]
    if word == "set":
        return ["set " + ", ".join([show_set(box, one) for box, one in statement[1]])]
    if word in ("wait", "say"):
        return [word + " " + show_remark(statement[1])]
    if word in ("take", "give", "label"):
        return [word + " " + statement[1]]
    if word == "if":
        return if_rows(statement)
    if word == "while":
        return ["while " + show_remark(statement[1])] + block_rows(statement[2]) + ["end"]
    if word == "rounds":
        return ["rounds " + str(statement[1])] + block_rows(statement[2]) + ["end"]
    return either_rows(statement[1])


def show_set(box, one):
    return box + " = " + show_sum(one)


def if_rows(statement):
    rows = ["if " + show_remark(statement[1])] + block_rows(statement[2])
    if len(statement[3]) > 0:
        rows = rows + ["else"] + block_rows(statement[3])
    return rows + ["end"]


def either_rows(ways):
    rows = ["either"] + block_rows(ways[0])
    for way in ways[1:]:
        rows = rows + ["or"] + block_rows(way)
    return rows + ["end"]
