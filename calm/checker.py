"""The small checker of papers [27] [28]: it runs nothing and seeks nothing.

The two lists with which a paper is read are a tuple (atoms, ors); of an or its members stand there.
"""

from calm.sums import plus, sum_of

MOST_DEEP = 90


# A loop, not a recursion: papers may stand deep within one another, and each must be right where it stands.
def let_by(rows, forms, paper):
    names = [box for box, low, high in rows]
    waiting = [(laid_in(first_lists(rows), forms), paper, 1)]
    while len(waiting) > 0:
        reading = waiting.pop()
        inner = None
        if reading[2] <= MOST_DEEP:
            inner = papers_within(names, reading[0], reading[1])
        if inner is None:
            return False
        waiting.extend([(lists, one, reading[2] + 1) for lists, one in inner])
    return True


def first_lists(rows):
    atoms = []
    for box, low, high in rows:
        atoms.append(at_least(box, low))
        atoms.append(at_most(box, high))
    return (atoms, [])


def at_most(box, number):
    return ("most", (-number, ((box, 1),)))


def at_least(box, number):
    return ("most", (number, ((box, -1),)))


# New lists: those that are handed in are read with other papers, too.
def laid_in(lists, forms):
    atoms = list(lists[0])
    ors = list(lists[1])
    waiting = list(forms)[::-1]
    while len(waiting) > 0:
        form = waiting.pop()
        if form[0] == "and":
            waiting.extend(form[1][::-1])
        elif form[0] == "or":
            ors.append(form[1])
        else:
            atoms.append(form)
    return (atoms, ors)


# The papers straight within a paper, each with the lists with which it is read; None where the paper itself
# isn't right.
def papers_within(names, lists, paper):
    parts = plain_tuple(paper)
    if is_kind(parts, "or", 3) and is_whole(parts[1]):
        return papers_of_or(lists, int(parts[1]), parts[2])
    if is_kind(parts, "cut", 5) and is_whole(parts[2]):
        return papers_of_cut(names, lists, parts[1], int(parts[2]), parts[3:])
    if is_kind(parts, "sum", 2) and is_sum(lists[0], plain_rows(parts[1])):
        return []
    if is_kind(parts, "rest", 3) and is_whole(parts[1]) and is_rest(lists[0], int(parts[1]), plain_rows(parts[2])):
        return []
    return None


# Anything may be handed in for a paper or a part of it, also of a class that stands under tuple, int or str and
# answers as it likes. So what is reckoned with is a plain copy of each part, or the program's own. What is no
# tuple, or no row of whole numbers, becomes the empty tuple, which shows nothing.
def plain_tuple(thing):
    return tuple(thing) if isinstance(thing, tuple) else ()


def plain_rows(thing):
    return [plain_row(row) for row in plain_tuple(thing)]


def plain_row(thing):
    parts = plain_tuple(thing)
    return tuple([int(part) for part in parts]) if all([is_whole(part) for part in parts]) else ()


def is_whole(thing):
    return isinstance(thing, int) and not isinstance(thing, bool)


def is_kind(parts, kind, length):
    return len(parts) == length and isinstance(parts[0], str) and parts[0] == kind


def is_place(number, places):
    return 0 <= number and number < len(places)


# Of an or without members the papers are the empty tuple, so what is no tuple is told apart here.
def papers_of_or(lists, number, papers):
    if not is_place(number, lists[1]) or not isinstance(papers, tuple):
        return None
    members = lists[1][number]
    inner = plain_tuple(papers)
    if len(inner) != len(members):
        return None
    return [(laid_in(lists, [member]), one) for member, one in zip(members, inner)]


def papers_of_cut(names, lists, box, number, papers):
    boxes = [name for name in names if isinstance(box, str) and name == box]
    if len(boxes) != 1:
        return None
    low = laid_in(lists, [at_most(boxes[0], number)])
    high = laid_in(lists, [at_least(boxes[0], number + 1)])
    return [(low, papers[0]), (high, papers[1])]


def is_sum(atoms, rows):
    if not all([is_sum_row(atoms, row) for row in rows]):
        return False
    whole = added_up(atoms, rows)
    return whole[1] == () and whole[0] > 0


def is_sum_row(atoms, row):
    return len(row) == 2 and is_atom(atoms, row[0], "most") and row[1] > 0


def is_atom(atoms, number, kind):
    return is_place(number, atoms) and atoms[number][0] == kind


# All rows' sums together, each so many times: in every row the atom's place stands first, times last.
def added_up(atoms, rows):
    number = 0
    pairs = []
    for row in rows:
        one = atoms[row[0]][1]
        number = number + row[-1] * one[0]
        pairs.extend([(box, row[-1] * times) for box, times in one[1]])
    return sum_of(number, pairs)


def is_rest(atoms, divisor, rows):
    if divisor < 2 or not all([is_rest_row(atoms, divisor, row) for row in rows]):
        return False
    whole = added_up(atoms, rows)
    return whole[0] % divisor != 0 and all([times % divisor == 0 for box, times in whole[1]])


def is_rest_row(atoms, divisor, row):
    if len(row) == 3:
        return is_zero_pair(atoms, row[0], row[1]) and row[2] != 0
    if len(row) == 2:
        return is_atom(atoms, row[0], "rest") and row[1] != 0 and row[1] * atoms[row[0]][2] % divisor == 0
    return False


# Two sums that together are 0, and neither of them above 0: so both are 0.
def is_zero_pair(atoms, one, other):
    if not is_atom(atoms, one, "most") or not is_atom(atoms, other, "most"):
        return False
    return plus(atoms[one][1], atoms[other][1]) == (0, ())
