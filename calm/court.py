"""The papers of a program with its annotation, and the court [30] [31]."""

from calm.checker import is_whole, let_by, plain_tuple
from calm.duties import box_rows, duties_of, duty_forms
from calm.errors import TooMany
from calm.forms import place_box
from calm.maker import answer_of
from calm.reached import breach


def shown_by(program, annotation, papers):
    duties = duties_of(program)
    pairs = [plain_tuple(pair) for pair in papers] if isinstance(papers, list) else []
    if len(pairs) != len(duties):
        return False
    return all([is_shown(program, annotation, duty, pair) for duty, pair in zip(duties, pairs)])


def is_shown(program, annotation, duty, pair):
    if len(pair) != 2 or not is_same(duty, plain_tuple(pair[0])):
        return False
    return let_by(box_rows(program), duty_forms(program, annotation, duty), pair[1])


# Python takes True for 1, and 1.0 too, so each part is looked at for its kind.
def is_same(duty, parts):
    return len(parts) == len(duty) and all([is_same_part(part, other) for part, other in zip(duty, parts)])


def is_same_part(part, other):
    if isinstance(part, str):
        return isinstance(other, str) and other == part
    return is_whole(other) and int(other) == part


def court_of(program, annotation, rows, most):
    papers = []
    for duty in duties_of(program):
        answer = answer_or_none(box_rows(program), duty_forms(program, annotation, duty), rows)
        if answer is None or answer[0] == "book":
            return told_of_failure(program, annotation, duty, answer, rows, most)
        papers.append((duty, answer[1]))
    return ("shown", papers)


def answer_or_none(stretches, forms, rows):
    try:
        return answer_of(stretches, forms, rows)
    except TooMany:
        return None


# A breach is told also where the maker was refused.
def told_of_failure(program, annotation, duty, answer, rows, most):
    found = None
    all_seen = True
    try:
        found = breach(program, annotation, most)
    except TooMany:
        all_seen = False
    if found is not None:
        return ("broken", found[0], found[1])
    if answer is None:
        raise TooMany(rows)
    return ("not enough", duty, stand_of(program, answer[1]), all_seen)


def stand_of(program, book):
    places = [book[place_box(hand)] for hand, many in program[1]]
    values = [book[box[0]] for box in program[0]]
    return (tuple(places), tuple(values))
