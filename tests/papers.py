"""Papers for the tests, made the slow way: each box is cut down to one value, then a false atom is shown."""

from calm.checker import let_by
from calm.sums import value
from tests.samples import books_within


def is_true(form, book):
    if form[0] == "most":
        return value(form[1], book) <= 0
    if form[0] == "rest":
        return value(form[1], book) % form[2] == 0
    return (all if form[0] == "and" else any)(is_true(member, book) for member in form[1])


def has_book(rows, forms):
    return any(all(is_true(form, book) for form in forms) for book in books_within(rows))


def lay_in(atoms, ors, form):
    if form[0] == "and":
        for member in form[1]:
            atoms, ors = lay_in(atoms, ors, member)
        return atoms, ors
    return (atoms, ors + [form]) if form[0] == "or" else (atoms + [form], ors)


def at_most(box, number):
    return ("most", (-number, ((box, 1),)))


def at_least(box, number):
    return ("most", (number, ((box, -1),)))


def paper_of(rows, forms):
    """A paper of rows and forms that no book within the rows makes true."""
    atoms, ors = [], []
    for box, low, high in rows:
        atoms += [at_least(box, low), at_most(box, high)]
    for form in forms:
        atoms, ors = lay_in(atoms, ors, form)
    return cut_down(atoms, ors, {box: (low, high) for box, low, high in rows})


def cut_down(atoms, ors, ends):
    for box, (low, high) in ends.items():
        if low < high:
            half = (low + high) // 2
            below = cut_down(atoms + [at_most(box, half)], ors, {**ends, box: (low, half)})
            above = cut_down(atoms + [at_least(box, half + 1)], ors, {**ends, box: (half + 1, high)})
            return ("cut", box, half, below, above)
    return at_a_book(atoms, ors, {box: low for box, (low, high) in ends.items()})


def at_a_book(atoms, ors, book):
    for place, atom in enumerate(atoms):
        if not is_true(atom, book):
            return sum_paper(atoms, place, book) if atom[0] == "most" else rest_paper(atoms, place, book)
    # The last one, as what was laid in last stands within what was laid in ahead of it.
    place = max(place for place, form in enumerate(ors) if not is_true(form, book))
    papers = [at_a_book(*lay_in(atoms, ors, member), book) for member in ors[place][1]]
    return ("or", place, tuple(papers))


def sum_paper(atoms, place, book):
    rows = [(place, 1)]
    for box, times in atoms[place][1][1]:
        known = at_least(box, book[box]) if times > 0 else at_most(box, book[box])
        rows.append((atoms.index(known), abs(times)))
    return ("sum", tuple(rows))


def rest_paper(atoms, place, book):
    rows = [(place, 1)]
    for box, times in atoms[place][1][1]:
        rows.append((atoms.index(at_most(box, book[box])), atoms.index(at_least(box, book[box])), -times))
    return ("rest", atoms[place][2], tuple(rows))


def deep_of(paper):
    if paper[0] in ("sum", "rest"):
        return 1
    inner = paper[2] if paper[0] == "or" else paper[3:]
    return 1 + max((deep_of(one) for one in inner), default=0)


def numbers_in(paper):
    """Every whole number that a paper has."""
    if isinstance(paper, tuple):
        return [number for part in paper for number in numbers_in(part)]
    return [paper] if isinstance(paper, int) else []


def is_right(rows, forms, answer):
    """Whether what the maker tells is so, by the words of its point alone."""
    if answer[0] == "paper":
        return len(answer) == 2 and let_by(rows, forms, answer[1]) and deep_of(answer[1]) <= 90
    book = answer[1]
    return (
        answer[0] == "book" and len(answer) == 2
        and sorted(book) == sorted(box for box, low, high in rows)
        and all(isinstance(number, int) and not isinstance(number, bool) for number in book.values())
        and all(low <= book[box] <= high for box, low, high in rows)
        and all(is_true(form, book) for form in forms)
    )
