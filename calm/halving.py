"""Books and drafts found the plain way: stretches are halved till all forms are seen to be true, or one false [29].

The halves of one box after the other are at most some twenty deep where there are at most a million books, so the
drafts never go too deep.
"""

from calm.checker import at_least, at_most
from calm.drafts import cut_members, needs_of, without
from calm.remarks import parts_of
from calm.spans import draft_against, seen_over


# The ends of boxes, by atoms that tell an end of one box alone; the rows' own are among them.
def ends_of(rows, atoms):
    ends = dict([(box, ends_at(box, low, high)) for box, low, high in rows])
    for atom in atoms:
        parts = atom[1][1]
        if atom[0] == "most" and len(parts) == 1 and abs(parts[0][1]) == 1:
            ends[parts[0][0]] = narrowed(ends[parts[0][0]], parts[0][0], atom[1][0], parts[0][1])
    return ends


def ends_at(box, low, high):
    return (low, high, at_least(box, low), at_most(box, high))


def narrowed(known, box, number, times):
    if times > 0:
        return ends_at(box, known[0], min(known[1], -number))
    return ends_at(box, max(known[0], number), known[1])


def books_within(ends):
    many = 1
    for box, known in ends.items():
        many = many * max(0, known[1] - known[0] + 1)
    return many


# Told is ("book", book) or ("draft", draft, needs), forms being all that is in the lists.
def halved(forms, ends):
    for box, known in ends.items():
        if known[0] > known[1]:
            return with_needs(("sum", [(known[2], 1), (known[3], 1)]))
    return halved_within(forms, ends)


def with_needs(draft):
    return ("draft", draft, needs_of(draft))


def halved_within(forms, ends):
    still = []
    for form in forms:
        known = seen_over(form, ends)
        if known is False:
            return with_needs(draft_against(form, ends))
        if known is None:
            still.append(form)
    if len(still) == 0:
        return ("book", dict([(box, known[0]) for box, known in ends.items()]))
    return halved_at(widest(still[0], ends), still, ends)


def halved_at(box, forms, ends):
    known = ends[box]
    half = (known[0] + known[1]) // 2
    atoms = cut_members(box, half)
    halves = ((known[0], half, known[2], atoms[0]), (half + 1, known[1], atoms[1], known[3]))
    drafts = []
    needs = {}
    for one, atom in zip(halves, atoms):
        narrower = dict(ends)
        narrower[box] = one
        answer = halved_within(forms, narrower)
        # What is shown without the atom is shown of the other half, too.
        if answer[0] == "book" or atom not in answer[2]:
            return answer
        drafts.append(answer[1])
        needs.update(without(answer[2], [atom]))
    return ("draft", ("cut", box, half, drafts), needs)


# The box by which a sum of the form may change most. A form that is still open names one that may still change.
def widest(form, ends):
    wide = []
    for part in parts_of(form):
        if part[0] in ("most", "rest"):
            wide.extend([(abs(times) * (ends[box][1] - ends[box][0]), box) for box, times in part[1][1]])
    return max(wide)[1]
