"""The desk: questions of a program, and answers, as texts [38]."""

from calm.court import court_of, shown_by
from calm.errors import NoStep, NoText
from calm.laying import lay_out
from calm.least import least_stretches
from calm.listed import finite_answer
from calm.locks import holding
from calm.papertexts import read_papers, show_duty, show_papers
from calm.parting import straight
from calm.reached import breach
from calm.stands import woven
from calm.tokens import is_number
from calm.trees import read_program

GREATEST = 1000000
MOST_ROUNDS = 1000
CHECK = "check "


def tell(text, question):
    laid = lay_out(read_program(text))
    if question.startswith(CHECK):
        return tell_check(laid[0], laid[1], question[len(CHECK):])
    words = question.split(" ")
    word = words[0]
    if word in ("places", "locks"):
        numbers_of(words[1:], [])
        return tell_places(laid[0]) if word == "places" else tell_locks(laid[0])
    if word in ("weave", "straight"):
        numbers = numbers_of(words[1:], [(0, GREATEST) for one in words[1:]])
        return tell_weave(laid[0], numbers) if word == "weave" else tell_straight(laid[0], numbers)
    return tell_counted(laid[0], laid[1], word, words[1:])


# The questions that bear the counts at which they are refused.
def tell_counted(program, annotation, word, words):
    if word == "breach":
        most = numbers_of(words, [(1, GREATEST)])[0]
        return tell_breach(breach(program, annotation, most))
    if word == "finite":
        most = numbers_of(words, [(1, GREATEST)])[0]
        return tell_finite(finite_answer(program, annotation, most))
    if word == "court":
        numbers = numbers_of(words, [(1, GREATEST), (1, GREATEST)])
        return tell_court(court_of(program, annotation, numbers[0], numbers[1]))
    if word == "least":
        numbers = numbers_of(words, [(0, MOST_ROUNDS), (1, GREATEST)])
        return tell_least(program, least_stretches(program, numbers[0], numbers[1]))
    raise NoText(0)


def numbers_of(words, bounds):
    if len(words) != len(bounds):
        raise NoText(0)
    return [number_within(word, pair) for word, pair in zip(words, bounds)]


# Lengths are looked at first: Python turns no text of some thousand figures into a number.
def number_within(word, pair):
    if not is_number(word) or len(word) > len(str(pair[1])):
        raise NoText(0)
    number = int(word)
    if number < pair[0] or number > pair[1]:
        raise NoText(0)
    return number


def spaced(numbers):
    return " ".join([str(number) for number in numbers])


# What stands behind a colon has a blank ahead; where there is nothing, the colon ends it.
def behind_colon(name, words):
    return " ".join([name + ":"] + words)


def tell_places(program):
    return ", ".join([f"{hand} {places}" for hand, places in program[1]])


def tell_breach(found):
    return "none" if found is None else show_breach(found[0], found[1])


def show_breach(weaving, hand):
    return behind_colon(hand, [str(number) for number in weaving])


def tell_court(answer):
    if answer[0] == "shown":
        return "shown\n" + show_papers(answer[1])
    if answer[0] == "broken":
        return "broken " + show_breach(answer[1], answer[2])
    stand = [str(number) for number in answer[2][0] + answer[2][1]]
    told = behind_colon("not enough " + show_duty(answer[1]), stand)
    return told + " all" if answer[3] else told


def tell_finite(answer):
    if answer[0] == "shown":
        return "shown\n" + show_papers(answer[2])
    return "broken " + show_breach(answer[1], answer[2])


def tell_check(program, annotation, text):
    try:
        papers = read_papers(text)
    except NoText:
        return "no"
    return "yes" if shown_by(program, annotation, papers) else "no"


def tell_least(program, table):
    rows = []
    for hand, place in places_in_order(program):
        pairs = table[(hand, place)]
        words = ["none"] if pairs is None else [f"{low}..{high}" for low, high in pairs]
        rows.append(behind_colon(f"{hand} {place}", words))
    return "\n".join(rows)


def tell_locks(program):
    held = holding(program)
    rows = []
    for hand, place in places_in_order(program):
        locks = held[(hand, place)]
        rows.append(behind_colon(f"{hand} {place}", ["-"] if locks is None else list(locks)))
    return "\n".join(rows)


def places_in_order(program):
    told = []
    for hand, places in program[1]:
        told.extend([(hand, place) for place in range(places)])
    return told


def tell_weave(program, numbers):
    last = woven(program, numbers)[-1]
    return spaced(last[0] + last[1])


def tell_straight(program, numbers):
    for place, number in enumerate(numbers):
        if number >= len(program[2]):
            raise NoStep(place)
    return spaced(straight(program, numbers))
