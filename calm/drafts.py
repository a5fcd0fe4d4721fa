"""Drafts of papers [27]: what is found by seeking, till places in the lists are known.

A draft has atoms and ors themselves where a paper has their places: ("sum", rows), rows a list of tuples
(atom, times); ("rest", m, rows), rows a list of tuples (atom, times) and (atom, atom, times); ("or", form, drafts);
("cut", box, k, drafts). So a draft stays right wherever its atoms and ors are known, in whatever order.
"""

from calm.checker import at_least, at_most, laid_in


# The forms that a draft needs to be known ahead of it, a dict to True.
def needs_of(draft):
    if draft[0] in ("sum", "rest"):
        needs = {}
        for row in draft[-1]:
            for atom in row[:-1]:
                needs[atom] = True
        return needs
    needs = {draft[1]: True} if draft[0] == "or" else {}
    for form, inner in zip(members_of_draft(draft), draft[-1]):
        needs.update(without(needs_of(inner), laid_by(form)))
    return needs


# The forms that are laid in ahead of the drafts within.
def members_of_draft(draft):
    if draft[0] == "or":
        return draft[1][1]
    return cut_members(draft[1], draft[2])


def cut_members(box, number):
    return (at_most(box, number), at_least(box, number + 1))


# The atoms and ors that are put into the lists where a form is laid in.
def laid_by(form):
    lists = laid_in(([], []), [form])
    return lists[0] + [("or", members) for members in lists[1]]


def without(needs, forms):
    left = dict(needs)
    for form in forms:
        if form in left:
            left.pop(form)
    return left


def numbered(lists, draft):
    if draft[0] in ("sum", "rest"):
        rows = [numbered_row(lists[0], row) for row in draft[-1]]
        return draft[:-1] + (tuple(rows),)
    papers = []
    for form, inner in zip(members_of_draft(draft), draft[-1]):
        papers.append(numbered(laid_in(lists, [form]), inner))
    if draft[0] == "or":
        return ("or", lists[1].index(draft[1][1]), tuple(papers))
    return ("cut", draft[1], draft[2], papers[0], papers[1])


def numbered_row(atoms, row):
    return tuple([atoms.index(atom) for atom in row[:-1]]) + row[-1:]
