"""Books and drafts sought by points: a point that keeps to the atoms shows where to split an or or cut a stretch [29].

Far fewer splits are needed than by halving, and long stretches do no harm; but how many is not known ahead, so they are
counted.
"""

from calm.checker import MOST_DEEP, at_least, at_most, laid_in
from calm.drafts import cut_members, laid_by, needs_of, without
from calm.errors import TooMany
from calm.forms import form_parts
from calm.remarks import boxes_in
from calm.residues import near, solved
from calm.spans import common_over, least_over
from calm.sums import value
from calm.tableau import (
    box_ends, copied, equal_pairs, is_beyond, keeps_to, lay_bound, point_of, settle, tableau_of,
)

MOST_LOOKS = 2000
# One look goes through all parts of the forms, so of very many parts fewer looks are taken.
MOST_WORK = 1000000
# Each rest is met with each other one, so that one look at many of them counts for more.
MANY_RESTS = 30
# A stretch is long where it pays to look which part of it is left.
LONG = 100
# A draft's numbers have at most sixty figures, whatever the sums are: so many bits have no more.
MOST_BITS = 199


class Quest:
    def __init__(self, rows, forms, most):
        self.boxes = [box for box, low, high in rows]
        self.form = ("and", tuple(forms))
        self.most = most
        self.looks_left = min(MOST_LOOKS, MOST_WORK // form_parts(self.form))


# What is known at one point of the seeking: the bounds of most-atoms, the rests, the ors that are not split yet.
class Scene:
    def __init__(self, tableau):
        self.tableau = tableau
        self.rests = []
        self.ors = []
        self.clash = None


# Told is ("book", book) or ("draft", draft, needs), or it is refused with TooMany(most).
def sought(rows, forms, most):
    quest = Quest(rows, forms, most)
    return seek(quest, scene_with(Scene(tableau_of(rows)), quest.form), 1)


def scene_with(scene, form):
    inner = Scene(copied(scene.tableau))
    lists = laid_in(([], []), [form])
    inner.ors = scene.ors + [("or", members) for members in lists[1]]
    inner.rests = scene.rests + [atom for atom in lists[0] if atom[0] == "rest"]
    for atom in lists[0]:
        if atom[0] == "most" and inner.clash is None:
            inner.clash = lay_bound(inner.tableau, atom)
    return inner


def seek(quest, scene, deep):
    cost = 1 + (len(scene.rests) // MANY_RESTS) ** 2
    if quest.looks_left < cost or deep > MOST_DEEP:
        raise TooMany(quest.most)
    quest.looks_left = quest.looks_left - cost
    clash = scene.clash
    if clash is None:
        clash = settle(scene.tableau)
    if clash is not None:
        return leaf(quest, ("sum", clash))
    told = residues_of(quest, scene)
    if told[0] == "rest":
        return leaf(quest, told)
    point = point_for(quest, scene, told[1])
    whole = is_whole_point(scene, point)
    form = or_to_split(quest, scene, point, whole)
    if form is not None:
        return split(quest, without_or(scene, form), ("or", form), form[1], deep)
    if whole:
        return ("book", point[1])
    cut = cut_at(quest, scene, point)
    return split(quest, scene, ("cut", cut[0], cut[1]), cut_members(cut[0], cut[1]), deep)


def leaf(quest, draft):
    numbers = [row[-1] for row in draft[-1]] + [draft[1] if draft[0] == "rest" else 0]
    if max([number.bit_length() for number in numbers]) > MOST_BITS:
        raise TooMany(quest.most)
    return ("draft", draft, needs_of(draft))


def residues_of(quest, scene):
    equations = [(pair[0][1], 0, pair) for pair in equal_pairs(scene.tableau)]
    equations.extend([(rest[1], rest[2], (rest,)) for rest in scene.rests])
    return solved(quest.boxes, equations)


# Of a point that is not whole it says nothing that a sum is divided there: such forms count for false.
def true_at(form, point, whole):
    kind = form[0]
    if kind in ("and", "or"):
        return any_is(kind == "or", form[1], point, whole) == (kind == "or")
    worth = value((form[1][0] * point[0], form[1][1]), point[1])
    return worth <= 0 if kind == "most" else whole and worth % form[2] == 0


# A loop that ends early: forms are asked of very many points.
def any_is(wanted, members, point, whole):
    for member in members:
        if true_at(member, point, whole) == wanted:
            return True
    return False


# Of the ors that are false at the point one with fewest members left.
def or_to_split(quest, scene, point, whole):
    ends = box_ends(scene.tableau, quest.boxes)
    chosen = None
    fewest = 0
    for form in scene.ors:
        if not true_at(form, point, whole):
            left = len([member for member in form[1] if not is_out(scene.tableau, ends, member)])
            if chosen is None or left < fewest:
                chosen = form
                fewest = left
    return chosen


def is_out(tableau, ends, form):
    kind = form[0]
    if kind == "most":
        return is_beyond(tableau, form) or least_over(form[1], ends) > 0
    if kind == "rest":
        return least_over(form[1], ends) % common_over(form[1], form[2], ends) != 0
    out = [is_out(tableau, ends, member) for member in form[1]]
    return any(out) if kind == "and" else all(out)


def without_or(scene, form):
    other = Scene(scene.tableau)
    other.rests = scene.rests
    other.ors = [one for one in scene.ors if one != form]
    return other


def split(quest, scene, head, members, deep):
    drafts = []
    needs = {head[1]: True} if head[0] == "or" else {}
    for member in members:
        answer = seek(quest, scene_with(scene, member), deep + 1)
        laid = laid_by(member)
        # What is shown without the member is shown without any split.
        if answer[0] == "book" or not any([form in answer[2] for form in laid]):
            return answer
        drafts.append(answer[1])
        needs.update(without(answer[2], laid))
    return ("draft", head + (drafts,), needs)


# A point of the tableau; where it is no book of the atoms, one near to it, if that is.
def point_for(quest, scene, solving):
    point = point_of(scene.tableau, quest.boxes)
    if not is_whole_point(scene, point):
        book = near(solving, point, box_ends(scene.tableau, quest.boxes))
        if keeps_to(scene.tableau, book):
            return (1, book)
    return point


def is_whole_point(scene, point):
    return point[0] == 1 and all([true_at(rest, point, True) for rest in scene.rests])


def cut_at(quest, scene, point):
    for box in quest.boxes:
        if point[1][box] % point[0] != 0:
            return (box, point[1][box] // point[0])
    ends = box_ends(scene.tableau, quest.boxes)
    broken = [rest for rest in scene.rests if not true_at(rest, point, True)][0]
    wide = [(ends[box][1] - ends[box][0], box) for box in boxes_in(broken)]
    box = min([pair for pair in wide if pair[0] > 0])[1]
    return (box, cut_within(scene.tableau, box, ends[box]))


# Of a long stretch all that the atoms together don't leave is cut off at once; what they leave is halved.
def cut_within(tableau, box, pair):
    if pair[1] - pair[0] > LONG:
        low = least_left(tableau, pair[0], pair[1], lambda number: at_most(box, number))
        high = -least_left(tableau, -pair[1], -pair[0], lambda number: at_least(box, -number))
        if high < pair[1]:
            return high
        if low > pair[0]:
            return low - 1
    return (pair[0] + pair[1]) // 2


# The least number whose atom can be kept to; the greatest one's can.
def least_left(tableau, least, greatest, atom_at):
    low = least
    high = greatest
    while low < high:
        half = (low + high) // 2
        if can_keep_to(tableau, atom_at(half)):
            high = half
        else:
            low = half + 1
    return low


def can_keep_to(tableau, atom):
    other = copied(tableau)
    return lay_bound(other, atom) is None and settle(other) is None
