"""Programs read from texts: trees [9] [10]."""

from calm.errors import NoText
from calm.remarktexts import next_remark
from calm.sumtexts import next_sum
from calm.tokens import Reader

ENDERS = ("end", "else", "or")
MOST_DEEP = 5
MOST_ROUNDS = 9


# Goes through the rows of a text. A row is cut into tokens only when it is come to, so that
# the first row that is none is the one refused.
class Source:
    def __init__(self, text):
        self.rows = text.split("\n")
        self.passed = 0
        self.reader = None

    def pass_blanks(self):
        while self.passed < len(self.rows) and self.rows[self.passed].strip(" ") == "":
            self.passed = self.passed + 1

    def is_over(self):
        self.pass_blanks()
        return self.passed == len(self.rows)

    def look(self):
        if self.is_over():
            raise NoText(len(self.rows) + 1)
        if self.reader is None:
            self.reader = Reader(self.rows[self.passed], self.passed + 1)
        return self.reader

    def next_row(self):
        reader = self.look()
        self.reader = None
        self.passed = self.passed + 1
        return reader


def read_program(text):
    source = Source(text)
    boxes = []
    locks = []
    while not source.is_over() and source.look().seen(0) != "hand":
        read_shared(source.next_row(), boxes, locks)
    hands = [read_hand(source)]
    while not source.is_over():
        hands.append(read_hand(source))
    return (boxes, locks, hands)


def read_shared(reader, boxes, locks):
    if reader.took("box"):
        boxes.append(next_box(reader))
    else:
        reader.need("lock")
        locks.append(reader.next_name())
    reader.need_end()


def read_hand(source):
    reader = source.next_row()
    reader.need("hand")
    name = reader.next_name()
    reader.need_end()
    owns = next_owns(source)
    rows = next_rows(source, 0)
    reader = source.next_row()
    reader.need("end")
    reader.need_end()
    return (name, owns, rows)


def next_owns(source):
    owns = []
    while source.look().took("own"):
        reader = source.next_row()
        owns.append(next_box(reader))
        reader.need_end()
    return owns


def next_box(reader):
    name = reader.next_name()
    low = next_value(reader)
    high = next_value(reader)
    start = next_value(reader)
    if low > start or start > high:
        raise NoText(reader.row)
    return (name, low, high, start)


def next_value(reader):
    if reader.took("-"):
        return -reader.next_number(1, 10 ** 30)
    return reader.next_number(0, 10 ** 30)


# Deep is how many statements that have rows of their own these rows stand in.
def next_rows(source, deep):
    rows = []
    while source.look().seen(0) not in ENDERS:
        rows.append(next_statement(source, deep))
    return rows


# A label or say belongs to the statement that follows, so it can't be the last of such rows.
def close_rows(source, rows, enders):
    reader = source.next_row()
    word = reader.next_token()
    reader.need_end()
    if word not in enders:
        raise NoText(reader.row)
    if len(rows) > 0 and rows[-1][0] in ("label", "say"):
        raise NoText(reader.row)
    return word


def next_statement(source, deep):
    reader = source.next_row()
    word = reader.next_token()
    if word in ("if", "while", "rounds", "either"):
        return next_block(source, reader, word, deep)
    statement = next_simple(reader, word)
    reader.need_end()
    return statement


def next_simple(reader, word):
    if word == "set":
        return ("set", next_sets(reader))
    if word in ("wait", "say"):
        return (word, next_remark(reader, False))
    if word in ("take", "give", "label"):
        return (word, reader.next_name())
    raise NoText(reader.row)


def next_sets(reader):
    sets = [next_set(reader)]
    while reader.took(","):
        sets.append(next_set(reader))
    if len(set([box for box, one in sets])) < len(sets):
        raise NoText(reader.row)
    return tuple(sets)


def next_set(reader):
    box = reader.next_name()
    reader.need("=")
    return (box, next_sum(reader))


def next_block(source, reader, word, deep):
    if deep == MOST_DEEP:
        raise NoText(reader.row)
    if word == "if":
        return next_if(source, reader, deep + 1)
    if word == "while":
        return next_while(source, reader, deep + 1)
    if word == "rounds":
        return next_rounds(source, reader, deep + 1)
    return next_either(source, reader, deep + 1)


def next_if(source, reader, deep):
    remark = next_remark(reader, False)
    reader.need_end()
    first = next_rows(source, deep)
    second = []
    if close_rows(source, first, ("else", "end")) == "else":
        second = next_rows(source, deep)
        close_rows(source, second, ("end",))
    return ("if", remark, first, second)


def next_while(source, reader, deep):
    remark = next_remark(reader, False)
    reader.need_end()
    rows = next_rows(source, deep)
    close_rows(source, rows, ("end",))
    return ("while", remark, rows)


def next_rounds(source, reader, deep):
    many = reader.next_number(0, MOST_ROUNDS)
    reader.need_end()
    rows = next_rows(source, deep)
    close_rows(source, rows, ("end",))
    return ("rounds", many, rows)


# The first way must end in an or: so there are two ways at least.
def next_either(source, reader, deep):
    reader.need_end()
    ways = [next_rows(source, deep)]
    word = close_rows(source, ways[0], ("or",))
    while word == "or":
        way = next_rows(source, deep)
        word = close_rows(source, way, ("or", "end"))
        ways.append(way)
    return ("either", tuple(ways))
