"""Sums as texts [7]."""

from calm.errors import NoText
from calm.sums import sum_of
from calm.tokens import Reader, is_name

GREATEST = 999999999


def show_sum(one):
    pieces = [show_part(box, abs(times)) for box, times in one[1]]
    numbers = [times for box, times in one[1]]
    if one[0] != 0 or len(pieces) == 0:
        pieces.append(str(abs(one[0])))
        numbers.append(one[0])
    text = ""
    for piece, number in zip(pieces, numbers):
        text = text + sign_ahead(text == "", number < 0) + piece
    return text


def show_part(box, times):
    return box if times == 1 else f"{times} * {box}"


def sign_ahead(first, below):
    if first:
        return "-" if below else ""
    return " - " if below else " + "


def read_sum(text):
    reader = Reader(text, 1)
    one = next_sum(reader)
    reader.need_end()
    return one


def next_sum(reader):
    pieces = [next_piece(reader, -1 if reader.took("-") else 1)]
    while reader.seen(0) in ("+", "-"):
        sign = 1 if reader.next_token() == "+" else -1
        pieces.append(next_piece(reader, sign))
    number = sum([times for box, times in pieces if box == ""])
    one = sum_of(number, [piece for piece in pieces if piece[0] != ""])
    return bounded(reader, one)


# A number by itself is a piece of the text without signs, which names no box.
def next_piece(reader, sign):
    if is_name(reader.seen(0)):
        return (reader.next_name(), sign)
    times = sign * reader.next_number(0, GREATEST)
    if reader.took("*"):
        return (reader.next_name(), times)
    return ("", times)


def bounded(reader, one):
    numbers = [one[0]] + [times for box, times in one[1]]
    if max([abs(number) for number in numbers]) > GREATEST:
        raise NoText(reader.row)
    return one
