"""Forms looked at over stretches [23] [27]: ends is a dict from boxes to tuples (low, high).

Where drafts are made, the tuples are (low, high, atom, atom): the atoms that tell the two ends, which are made once, as
very many drafts have them.
"""

from calm.wholes import divisor_of


# True or False where it can be seen, box by box, that the form is so of all books within the ends; else None.
def seen_over(form, ends):
    kind = form[0]
    if kind == "most":
        return seen_most(form[1], ends)
    if kind == "rest":
        return seen_rest(form[1], form[2], ends)
    return seen_members(form[1], ends, kind == "or")


# One member that is so is enough to tell an or True, an and False.
def seen_members(members, ends, enough):
    is_open = False
    for member in members:
        known = seen_over(member, ends)
        if known == enough:
            return enough
        if known is None:
            is_open = True
    return None if is_open else not enough


def seen_most(one, ends):
    if least_over(one, ends) > 0:
        return False
    return True if greatest_over(one, ends) <= 0 else None


def least_over(one, ends):
    return one[0] + sum([times * ends[box][0 if times > 0 else 1] for box, times in one[1]])


def greatest_over(one, ends):
    return one[0] + sum([times * ends[box][1 if times > 0 else 0] for box, times in one[1]])


def seen_rest(one, divisor, ends):
    common = common_over(one, divisor, ends)
    if least_over(one, ends) % common != 0:
        return False
    return True if common == divisor else None


# What divides the divisor and the times of every box that may still change: a rest by it is the same of all books.
def common_over(one, divisor, ends):
    return divisor_of([divisor] + [times for box, times in one[1] if ends[box][0] < ends[box][1]])


# The draft of a form that is seen to be False.
def draft_against(form, ends):
    kind = form[0]
    if kind == "most":
        return ("sum", [(form, 1)] + [end_row(box, times, ends) for box, times in form[1][1]])
    if kind == "rest":
        return rest_draft(form, ends)
    if kind == "or":
        return ("or", form, [draft_against(member, ends) for member in form[1]])
    return draft_against(first_false(form[1], ends), ends)


def first_false(members, ends):
    return [member for member in members if seen_over(member, ends) is False][0]


# What takes the box out of a sum, at the end where the sum is least.
def end_row(box, times, ends):
    if times > 0:
        return (ends[box][2], times)
    return (ends[box][3], -times)


def rest_draft(form, ends):
    rows = [(form, 1)]
    for box, times in form[1][1]:
        if ends[box][0] == ends[box][1]:
            rows.append((ends[box][3], ends[box][2], -times))
    return ("rest", common_over(form[1], form[2], ends), rows)
