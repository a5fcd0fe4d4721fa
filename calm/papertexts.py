"""Texts of papers [37]."""

from calm.checker import MOST_DEEP
from calm.errors import NoText
from calm.tokens import is_name, is_number

MOST_ROWS = 5000
MOST_FIGURES = 400


def show_papers(papers):
    rows = []
    for duty, paper in papers:
        rows.append(show_duty(duty))
        rows.extend(paper_rows(paper))
    return "\n".join(rows)


def show_duty(duty):
    return " ".join([str(part) for part in duty])


# A loop, not a recursion: papers that were handed in may stand deep within one another.
def paper_rows(paper):
    rows = []
    waiting = [paper]
    while len(waiting) > 0:
        one = waiting.pop()
        rows.append(show_row(one))
        waiting.extend(papers_straight_within(one)[::-1])
    return rows


def papers_straight_within(paper):
    if paper[0] == "or":
        return paper[2]
    return paper[3:] if paper[0] == "cut" else ()


def show_row(paper):
    if paper[0] == "or":
        words = ["or", str(paper[1]), str(len(paper[2]))]
    elif paper[0] == "cut":
        words = ["cut", paper[1], str(paper[2])]
    elif paper[0] == "sum":
        words = ["sum"] + [show_times(row) for row in paper[1]]
    else:
        words = ["rest", str(paper[1])] + [show_times(row) for row in paper[2]]
    return " ".join(words)


def show_times(row):
    return ",".join([str(place) for place in row[:-1]]) + "*" + str(row[-1])


def read_papers(text):
    reading = Reading(text)
    papers = []
    while reading.number < len(reading.rows):
        duty = duty_of(reading)
        papers.append((duty, next_paper(reading)))
    return papers


# The rows of a text, each split at its blanks, and how many of them have been read.
class Reading:
    def __init__(self, text):
        self.rows = [] if text == "" else text.split("\n")
        self.number = 0

    # A text that ends too early is refused with the row that is not there.
    def next_words(self):
        self.number = self.number + 1
        if self.number > min(len(self.rows), MOST_ROWS):
            raise NoText(self.number)
        return self.rows[self.number - 1].split(" ")

    def need_that(self, is_right):
        if not is_right:
            raise NoText(self.number)


def duty_of(reading):
    words = reading.next_words()
    if words[0] == "start":
        reading.need_that(len(words) == 2)
        return ("start", name_of(reading, words[1]))
    if words[0] == "own":
        reading.need_that(len(words) == 2)
        return ("own", number_of(reading, words[1], 0))
    reading.need_that(words[0] == "other" and len(words) == 4)
    number = number_of(reading, words[1], 0)
    return ("other", number, name_of(reading, words[2]), number_of(reading, words[3], 0))


def name_of(reading, word):
    reading.need_that(is_name(word))
    return word


def box_of(reading, word):
    name_of(reading, word[1:] if word[:1] == "@" else word)
    return word


def number_of(reading, word, least):
    reading.need_that(is_number(word) and len(word) <= MOST_FIGURES)
    number = int(word)
    reading.need_that(number >= least)
    return number


def signed_of(reading, word):
    if word[:1] != "-":
        return number_of(reading, word, 0)
    return -number_of(reading, word[1:], 1)


# Open ones are the papers that others are still to come within: tuples of the head, how many, and those read so far.
def next_paper(reading):
    open_ones = []
    while True:
        head = head_of(reading)
        reading.need_that(len(open_ones) < MOST_DEEP)
        many = head[2] if head[0] == "or" else (2 if head[0] == "cut" else 0)
        open_ones.append((head, many, []))
        while len(open_ones[-1][2]) == open_ones[-1][1]:
            paper = with_papers(open_ones[-1][0], tuple(open_ones.pop()[2]))
            if len(open_ones) == 0:
                return paper
            open_ones[-1][2].append(paper)


def with_papers(head, papers):
    if head[0] == "or":
        return ("or", head[1], papers)
    return head + papers


# A paper without those within it; of an or it is told how many they are.
def head_of(reading):
    words = reading.next_words()
    if words[0] == "or":
        reading.need_that(len(words) == 3)
        return ("or", number_of(reading, words[1], 0), number_of(reading, words[2], 0))
    if words[0] == "cut":
        reading.need_that(len(words) == 3)
        return ("cut", box_of(reading, words[1]), signed_of(reading, words[2]))
    if words[0] == "sum":
        return ("sum", tuple([sum_row(reading, word) for word in words[1:]]))
    reading.need_that(words[0] == "rest" and len(words) >= 2)
    divisor = number_of(reading, words[1], 2)
    return ("rest", divisor, tuple([rest_row(reading, word) for word in words[2:]]))


def sum_row(reading, word):
    parts = word.split("*")
    reading.need_that(len(parts) == 2)
    return (number_of(reading, parts[0], 0), number_of(reading, parts[1], 1))


def rest_row(reading, word):
    parts = word.split("*")
    reading.need_that(len(parts) == 2)
    places = parts[0].split(",")
    times = signed_of(reading, parts[1])
    reading.need_that(len(places) <= 2 and times != 0)
    return tuple([number_of(reading, place, 0) for place in places]) + (times,)
