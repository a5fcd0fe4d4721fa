"""The maker of papers and books [29]."""

from calm.checker import first_lists, laid_in
from calm.drafts import numbered
from calm.errors import TooMany
from calm.forms import form_parts
from calm.halving import books_within, ends_of, halved
from calm.seeking import sought


def answer_of(rows, forms, most):
    answer = found(rows, forms, most)
    if answer[0] == "book":
        return answer
    return ("paper", numbered(laid_in(first_lists(rows), forms), answer[1]))


# Seeking may come to no end, or to drafts that are too deep; halving is asked where it can't take too long.
def found(rows, forms, most):
    try:
        return sought(rows, forms, most)
    except TooMany:
        pass
    lists = laid_in(first_lists(rows), forms)
    ends = ends_of(rows, lists[0])
    if books_within(ends) * (sum([form_parts(form) for form in forms]) + 2) > most:
        raise TooMany(most)
    return halved(lists[0] + [("or", members) for members in lists[1]], ends)
