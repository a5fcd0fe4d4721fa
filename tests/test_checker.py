import copy
import unittest

from calm.checker import let_by
from calm.duties import box_rows, duties_of, duty_forms
from calm.forms import against_form, plain_form
from calm.laying import lay_out
from calm.trees import read_program
from tests.papers import at_least, at_most, has_book, paper_of
from tests.samples import small_remark, source_of

TRUE = ("and", ())
FALSE = ("or", ())
ROWS = [("x", 0, 3), ("y", -2, 2), ("@h", 0, 1)]
NO = ("or", 0, ())
GREAT = 10 ** 59


def most(number, *parts):
    return ("most", (number, parts))


def rest(divisor, number, *parts):
    return ("rest", (number, parts), divisor)


class Case(unittest.TestCase):
    def yes(self, rows, forms, paper):
        self.assertIs(let_by(rows, forms, paper), True, paper)

    def no(self, rows, forms, paper):
        self.assertIs(let_by(rows, forms, paper), False, paper)


class Lists(Case):
    """The two lists with which a paper is read. The rows make six atoms: 0 to 5."""

    def test_rows_in_order(self):
        # 0: -x, 1: x - 3, 2: -2 - y, 3: y - 2, 4: -@h, 5: @h - 1.
        self.yes(ROWS, [at_least("x", 4)], ("sum", ((1, 1), (6, 1))))
        self.yes(ROWS, [at_most("x", -1)], ("sum", ((0, 1), (6, 1))))
        self.yes(ROWS, [at_least("y", 3)], ("sum", ((3, 1), (6, 1))))
        self.yes(ROWS, [at_most("y", -3)], ("sum", ((2, 1), (6, 1))))
        self.yes(ROWS, [at_least("@h", 2)], ("sum", ((5, 1), (6, 1))))
        self.yes(ROWS, [at_most("@h", -1)], ("sum", ((4, 1), (6, 1))))
        self.no(ROWS, [at_least("x", 4)], ("sum", ((0, 1), (6, 1))))
        self.no(ROWS, [at_least("x", 4)], ("sum", ((3, 1), (6, 1))))

    def test_forms_are_laid_in_in_order(self):
        atom, bad = most(0), most(1)
        self.yes([], [atom, bad], ("sum", ((1, 1),)))
        self.yes([], [("and", (atom, ("and", (atom, atom)))), atom, bad, atom], ("sum", ((4, 1),)))
        self.yes([], [("and", (atom, ("and", (atom, bad)), atom))], ("sum", ((2, 1),)))
        self.no([], [("and", (atom, ("and", (atom, bad)), atom))], ("sum", ((3, 1),)))
        self.yes([], [TRUE, bad], ("sum", ((0, 1),)))
        self.yes([], [("and", (bad,))], ("sum", ((0, 1),)))
        self.no([], [("or", (bad,))], ("sum", ((0, 1),)))

    def test_ors_in_order(self):
        some = ("or", (most(0), most(0)))
        self.yes([], [some, FALSE], ("or", 1, ()))
        self.yes([], [some, ("and", (some, most(0), FALSE, some))], ("or", 2, ()))
        self.no([], [some, ("and", (some, most(0), FALSE, some))], ("or", 1, ()))

    def test_members_are_laid_in_behind(self):
        bad = most(1)
        # The lists stay as they are for each member; the or stays in the ors.
        form = ("or", (bad, ("and", (most(0), bad)), FALSE, ("or", (bad, bad))))
        papers = (("sum", ((1, 1),)), ("sum", ((2, 1),)), ("or", 1, ()), ("or", 1, (("sum", ((1, 1),)),) * 2))
        self.yes([], [most(0), form], ("or", 0, papers))
        self.no([], [most(0), form], ("or", 0, (("sum", ((2, 1),)),) + papers[1:]))
        self.no([], [most(0), form], ("or", 0, papers[:3] + (("or", 1, (("sum", ((1, 1),)), ("sum", ((2, 1),)))),)))

    def test_no_rows_and_no_forms(self):
        for paper in (("sum", ()), ("sum", ((0, 1),)), ("rest", 2, ()), ("rest", 2, ((0, 1),)), ("or", 0, ()),
                      ("cut", "x", 0, ("sum", ()), ("sum", ()))):
            self.no([], [], paper)
        self.yes([], [FALSE], NO)
        self.no(ROWS, [], ("sum", ((0, 1), (1, 1))))
        self.yes([("x", 0, 3)], [FALSE], NO)

    def test_rows_in_any_order_and_of_any_ends(self):
        rows = [("@h", 3, 7), ("x", -GREAT, GREAT), ("@g", -1, 5)]
        self.yes(rows, [at_most("@h", 2)], ("sum", ((0, 1), (6, 1))))
        self.yes(rows, [at_least("x", GREAT + 1)], ("sum", ((3, 1), (6, 1))))
        self.yes(rows, [at_most("@g", -2)], ("sum", ((4, 1), (6, 1))))


class Ors(Case):
    def setUp(self):
        self.form = ("or", (at_least("x", 4), at_most("x", -1), ("and", (at_least("x", 2), at_most("x", 1)))))
        self.papers = (("sum", ((1, 1), (6, 1))), ("sum", ((0, 1), (6, 1))), ("sum", ((6, 1), (7, 1))))

    def test_one_paper_a_member(self):
        self.yes(ROWS, [self.form], ("or", 0, self.papers))
        self.no(ROWS, [self.form], ("or", 0, self.papers[:2]))
        self.no(ROWS, [self.form], ("or", 0, self.papers + self.papers[:1]))
        self.no(ROWS, [self.form], ("or", 0, ()))
        self.no(ROWS, [self.form], ("or", 0, self.papers[::-1]))
        for place in range(3):
            wrong = list(self.papers)
            wrong[place] = ("sum", ((1, 1),))
            self.no(ROWS, [self.form], ("or", 0, tuple(wrong)))
            wrong[place] = None
            self.no(ROWS, [self.form], ("or", 0, tuple(wrong)))

    def test_places(self):
        for place in (1, -1, 2, 10 ** 30, True, False, None, "0", 0.0, (0,), [0]):
            self.no(ROWS, [self.form], ("or", place, self.papers))
        self.no(ROWS, [at_least("x", 4)], ("or", 0, ()))
        self.no(ROWS, [FALSE, FALSE], ("or", True, ()))
        self.no(ROWS, [FALSE], ("or", False, ()))
        self.no(ROWS, [FALSE], ("or", -1, ()))

    def test_papers_are_a_tuple(self):
        for papers in (list(self.papers), None, "", 0, {}, "abc", {0: 1, 1: 1, 2: 1}, set(), range(3)):
            self.no(ROWS, [self.form], ("or", 0, papers))
        for papers in ([], None, "", 0, {}, set(), frozenset(), range(0), b""):
            self.no(ROWS, [FALSE], ("or", 0, papers))

    def test_an_or_of_one_member(self):
        self.yes(ROWS, [("or", (at_least("x", 4),))], ("or", 0, (self.papers[0],)))

    def test_ors_within_ors(self):
        inner = ("or", (at_least("x", 4), FALSE))
        form = ("or", (inner, ("and", (inner, inner)), at_most("x", -1)))
        low = ("or", 1, (self.papers[0], ("or", 2, ())))
        high = ("or", 2, (self.papers[0], ("or", 3, ())))
        self.yes(ROWS, [form], ("or", 0, (low, high, self.papers[1])))
        self.yes(ROWS, [form], ("or", 0, (low, ("or", 1, (self.papers[0], ("or", 3, ()))), self.papers[1])))
        self.no(ROWS, [form], ("or", 0, (low, low, self.papers[1])))
        self.no(ROWS, [form], ("or", 0, (high, high, self.papers[1])))


class Cuts(Case):
    def test_at_within_and_beyond_the_ends(self):
        forms = [at_least("x", 2), at_most("x", 1)]
        inner = ("sum", ((6, 1), (7, 1)))
        for k in (-GREAT, -7, -1, 0, 1, 2, 3, 4, 99, GREAT):
            self.yes(ROWS, forms, ("cut", "x", k, inner, inner))
            self.yes(ROWS, forms, ("cut", "@h", k, inner, inner))
        self.yes(ROWS, [at_least("x", 4)], ("cut", "x", 3, ("sum", ((6, 1), (7, 1))), ("sum", ((1, 1), (7, 1)))))
        self.yes(ROWS, [at_most("x", -1)], ("cut", "x", -1, ("sum", ((0, 1), (7, 1))), ("sum", ((6, 1), (7, 1)))))

    def test_low_and_high(self):
        # The first or asks for x above k, the second one for x at most k; FALSE is laid in behind the two.
        for k in range(-3, 4):
            forms = [("or", (at_least("x", k + 1), FALSE)), ("or", (at_most("x", k), FALSE))]
            low = ("or", 0, (("sum", ((2, 1), (3, 1))), ("or", 2, ())))
            high = ("or", 1, (("sum", ((2, 1), (3, 1))), ("or", 2, ())))
            self.yes([("x", -9, 9)], forms, ("cut", "x", k, low, high))
            for wrong in ((k, high, low), (k + 1, low, high), (k - 1, low, high), (k, low, low), (k, high, high)):
                self.no([("x", -9, 9)], forms, ("cut", "x") + wrong)

    def test_what_is_no_cut(self):
        forms = [at_least("x", 2), at_most("x", 1)]
        inner = ("sum", ((6, 1), (7, 1)))
        for box in ("z", "h", "", "@x", None, 0, ("x",), ["x"], {"x": 1}, b"x", True):
            self.no(ROWS, forms, ("cut", box, 1, inner, inner))
        for k in (True, False, None, "1", 1.0, (1,), [1], {}):
            self.no(ROWS, forms, ("cut", "x", k, inner, inner))
        for bad in (None, (), ("sum", ()), ("sum",), inner[1], list(inner), "sum", 0, ("sum", ((0, 1), (8, 1)))):
            self.no(ROWS, forms, ("cut", "x", 1, bad, inner))
            self.no(ROWS, forms, ("cut", "x", 1, inner, bad))
        self.no(ROWS, forms, ("cut", "x", 1, inner))
        self.no(ROWS, forms, ("cut", "x", 1, inner, inner, inner))
        self.no(ROWS, forms, ["cut", "x", 1, inner, inner])


class Sums(Case):
    def test_number_above_0(self):
        for number, told in ((2, True), (1, True), (0, False), (-1, False)):
            (self.yes if told else self.no)([], [most(number)], ("sum", ((0, 1),)))
            (self.yes if told else self.no)(ROWS, [at_least("x", 3 + number)], ("sum", ((1, 1), (6, 1))))

    def test_no_box_left(self):
        self.no([], [most(5, ("x", 1))], ("sum", ((0, 1),)))
        self.no([], [most(5, ("x", 1)), most(5, ("x", -2))], ("sum", ((0, 1), (1, 1))))
        self.yes([], [most(5, ("x", 1)), most(-9, ("x", -2))], ("sum", ((0, 2), (1, 1))))
        self.no([], [most(5, ("x", 1)), most(-10, ("x", -2))], ("sum", ((0, 2), (1, 1))))
        three = [most(0, ("x", 2), ("y", -3)), at_least("x", 2), at_most("y", 1)]
        self.yes([], three, ("sum", ((0, 1), (1, 2), (2, 3))))
        self.yes([], three, ("sum", ((2, 3), (0, 1), (1, 2))))
        self.no([], three, ("sum", ((0, 1), (1, 2), (2, 2))))
        self.no([], three, ("sum", ((0, 1), (1, 1), (2, 3))))

    def test_a_place_more_than_once(self):
        self.yes([], [most(5, ("x", 1)), most(-9, ("x", -2))], ("sum", ((0, 1), (1, 1), (0, 1))))

    def test_great_numbers(self):
        forms = [most(GREAT, ("x", GREAT)), most(1 - GREAT * GREAT, ("x", -GREAT * GREAT))]
        self.yes([], forms, ("sum", ((0, GREAT), (1, 1))))
        self.no([], forms, ("sum", ((0, GREAT + 1), (1, 1))))
        self.no([], [forms[0], most(-GREAT * GREAT, ("x", -GREAT * GREAT))], ("sum", ((0, GREAT), (1, 1))))
        self.yes([("x", -GREAT, GREAT)], [at_least("x", GREAT + 1)], ("sum", ((2, GREAT), (1, GREAT))))

    def test_what_is_no_sum(self):
        forms = [at_least("x", 4)]
        self.yes(ROWS, forms, ("sum", ((1, 1), (6, 1))))
        for place in (7, -1, -6, 10 ** 30, True, None, "1", 1.0, (1,)):
            self.no(ROWS, forms, ("sum", ((place, 1), (6, 1))))
            self.no(ROWS, forms, ("sum", ((1, 1), (6, 1), (place, 1))))
        for times in (0, -1, True, None, "1", 1.0, (1,), [1]):
            self.no(ROWS, forms, ("sum", ((1, times), (6, 1))))
        # Times below 0 would show that x is at most 2.
        self.no(ROWS, [at_least("x", -5)], ("sum", ((0, 1), (6, -1))))
        self.no([], [most(1), most(0)], ("sum", ((0, 1), (1, 0))))
        for row in ((1,), (1, 1, 1), (), [1, 1], None, 1, "11", {1: 1, 2: 2}, {1, 2}, range(1, 3)):
            self.no(ROWS, forms, ("sum", ((6, 1), row)))
        for rows in ([(1, 1), (6, 1)], None, 0, "", {1: 1, 6: 1}, (), ((1, 1)), (1, 6)):
            self.no(ROWS, forms, ("sum", rows))
        self.no(ROWS, forms, ("sum", ((1, 1), (6, 1)), ()))
        self.no(ROWS, forms, ("sum", (1, 1), (6, 1)))
        self.no(ROWS, forms, ("sum",))

    def test_rests_are_not_summed(self):
        self.no([], [rest(2, 1)], ("sum", ((0, 1),)))
        self.no([], [most(0), rest(2, 1)], ("sum", ((0, 1), (1, 1))))


class Rests(Case):
    def test_by_its_own_divisor(self):
        for divisor in range(2, 13):
            for number in range(-2 * divisor, 2 * divisor + 1):
                told = number % divisor != 0
                (self.yes if told else self.no)([], [rest(divisor, number)], ("rest", divisor, ((0, 1),)))
                forms = [rest(divisor, 0, ("x", 1)), rest(divisor, number, ("x", -1))]
                (self.yes if told else self.no)([], forms, ("rest", divisor, ((0, 1), (1, 1))))

    def test_boxes_that_m_divides(self):
        self.yes([], [rest(6, 1, ("x", 2), ("y", -4))], ("rest", 2, ((0, 1),)))
        self.no([], [rest(6, 1, ("x", 2), ("y", -3))], ("rest", 2, ((0, 1),)))
        self.no([], [rest(6, 1, ("x", 3))], ("rest", 6, ((0, 1),)))
        self.yes([], [rest(6, 1, ("x", 3))], ("rest", 3, ((0, 1),)))
        self.yes([], [rest(6, 1, ("x", 3))], ("rest", 6, ((0, 2),)))
        self.yes([], [rest(4, 1, ("x", 2))], ("rest", 2, ((0, 3),)))

    def test_m_divides_times_and_divisor(self):
        self.no([], [rest(2, 1)], ("rest", 3, ((0, 1),)))
        self.no([], [rest(2, 2)], ("rest", 4, ((0, 1),)))
        self.no([], [rest(2, 2)], ("rest", 4, ((0, 2),)))
        self.yes([], [rest(2, 1)], ("rest", 4, ((0, 2),)))
        self.yes([], [rest(2, 1)], ("rest", 4, ((0, -2),)))
        self.yes([], [rest(4, 2, ("x", 4)), rest(6, 0, ("x", 3))], ("rest", 4, ((0, 1),)))
        self.yes([], [rest(4, 2, ("x", 1)), rest(6, 1, ("x", 1))], ("rest", 2, ((0, 1), (1, -1))))
        self.yes([], [rest(4, 2, ("x", 1)), rest(6, 1, ("x", 1))], ("rest", 12, ((0, 3), (1, -2), (0, 3), (1, -4))))
        self.no([], [rest(4, 2, ("x", 1)), rest(6, 1, ("x", 1))], ("rest", 12, ((0, 3), (1, -3))))
        self.no([], [rest(4, 2, ("x", 1)), rest(6, 1, ("x", 1))], ("rest", 4, ((0, 1), (1, -1))))
        self.yes([], [rest(7, 1)], ("rest", 7 * GREAT, ((0, GREAT),)))

    def test_pairs(self):
        # x is 3 by two mosts, and is to be even.
        three = [at_most("x", 3), at_least("x", 3)]
        even = rest(2, 0, ("x", 1))
        for row in ((0, 1, -1), (0, 1, 1), (1, 0, 1), (0, 1, 7), (1, 0, -GREAT * 2 - 1)):
            self.yes([], three + [even], ("rest", 2, (row, (2, 1))))
            self.yes([], three + [even], ("rest", 2, ((2, -5), row)))
        self.no([], three + [even], ("rest", 2, ((0, 1, 2), (2, 1))))
        self.no([], three + [even], ("rest", 2, ((0, 1, 0), (2, 1))))
        self.no([], three + [rest(2, 1, ("x", 1))], ("rest", 2, ((0, 1, 1), (2, 1))))
        self.no([], [at_most("x", 3), at_least("x", 2), even], ("rest", 2, ((0, 1, 1), (2, 1))))
        self.no([], [at_most("x", 3), at_least("y", 3), even], ("rest", 2, ((0, 1, 1), (2, 1))))
        self.no([], three + [even], ("rest", 2, ((0, 0, 1), (2, 1))))
        self.no([], three + [even], ("rest", 2, ((0, 2, 1), (2, 1))))
        self.no([], three + [even], ("rest", 2, ((2, 0, 1), (2, 1))))
        self.no([], three + [even], ("rest", 2, ((0, 1), (2, 1))))

    def test_pairs_alone(self):
        # 6 x is 3 y and 1: by 3 that can't be.
        forms = [most(-1, ("x", 6), ("y", -3)), most(1, ("x", -6), ("y", 3))]
        self.yes([], forms, ("rest", 3, ((0, 1, 1),)))
        self.yes([], forms, ("rest", 9, ((0, 1, 3),)))
        self.no([], forms, ("rest", 2, ((0, 1, 1),)))
        self.no([], forms, ("rest", 9, ((0, 1, 1),)))
        self.yes([], [most(GREAT + 1, ("x", GREAT)), most(-GREAT - 1, ("x", -GREAT))], ("rest", GREAT, ((0, 1, 1),)))
        self.yes([], [most(0), most(1), most(-1)], ("rest", 2, ((1, 2, 1), (0, 0, 1))))

    def test_two_rests_of_one_place(self):
        self.no([], [rest(2, 1)], ("rest", 2, ((0, 1), (0, 1))))
        self.yes([], [rest(2, 1)], ("rest", 2, ((0, 1), (0, 1), (0, 1))))

    def test_what_is_no_rest(self):
        forms = [rest(2, 1), most(0), most(0)]
        self.yes([], forms, ("rest", 2, ((0, 1), (1, 2, 1))))
        for divisor in (1, 0, -1, -2, True, False, None, "2", 2.0, (2,), [2]):
            self.no([], forms, ("rest", divisor, ((0, 1), (1, 2, 1))))
        for place in (3, -3, -1, 10 ** 30, True, False, None, "0", 0.0, [0]):
            self.no([], forms, ("rest", 2, ((0, 1), (place, 2))))
            self.no([], forms, ("rest", 2, ((0, 1), (place, 2, 1))))
            self.no([], forms, ("rest", 2, ((0, 1), (2, place, 1))))
        for times in (0, True, False, None, "1", 1.0, (1,)):
            self.no([], forms, ("rest", 2, ((0, times),)))
            self.no([], forms, ("rest", 2, ((0, 1), (0, times))))
            self.no([], forms, ("rest", 2, ((0, 1), (1, 2, times))))
        self.no([], forms, ("rest", 2, ((0, 1), (1, 2))))
        for row in ((0,), (), (1, 2, 1, 1), [0, 2], [1, 2, 1], None, 0, "02", "121", {0: 1, 1: 1}, range(3), {1, 2, 3}):
            self.no([], forms, ("rest", 2, ((0, 1), row)))
        for rows in ([(0, 1)], None, 0, "", {}, (), (0, 1), {(0, 1): 1}):
            self.no([], forms, ("rest", 2, rows))
        self.no([], forms, ("rest", 2))
        self.no([], forms, ("rest", ((0, 1),)))
        self.no([], forms, ("rest", 2, ((0, 1),), ()))


class Depth(Case):
    def deep(self, many, wrap):
        paper = NO
        for turn in range(many - 1):
            paper = wrap(paper, turn)
        return paper

    def test_cuts(self):
        for wrap in (lambda paper, turn: ("cut", "x", turn, paper, NO), lambda paper, turn: ("cut", "x", turn, NO, paper)):
            self.yes(ROWS, [FALSE], self.deep(1, wrap))
            self.yes(ROWS, [FALSE], self.deep(89, wrap))
            self.yes(ROWS, [FALSE], self.deep(90, wrap))
            self.no(ROWS, [FALSE], self.deep(91, wrap))
            self.no(ROWS, [FALSE], self.deep(100000, wrap))

    def test_ors(self):
        forms = [FALSE, ("or", (most(0), most(0)))]
        for wrap in (lambda paper, turn: ("or", 1, (paper, NO)), lambda paper, turn: ("or", 1, (NO, paper))):
            self.yes([], forms, self.deep(90, wrap))
            self.no([], forms, self.deep(91, wrap))

    def test_sums_and_rests(self):
        for form, leaf in ((most(1), ("sum", ((0, 1),))), (rest(2, 1), ("rest", 2, ((0, 1),)))):
            paper = leaf
            for turn in range(89):
                paper = ("or", 0, (leaf, paper))
            self.yes([], [form, ("or", (most(0), most(0)))], paper)
            self.no([], [form, ("or", (most(0), most(0)))], ("or", 0, (leaf, paper)))

    def test_forms_deep_within_one_another(self):
        form = most(1)
        for turn in range(3000):
            form = ("and", (form, most(0)))
        self.yes([], [form], ("sum", ((0, 1),)))


class Odd:
    """Something that is like nothing, and can't be asked."""

    def __eq__(self, other):
        raise RuntimeError

    def __hash__(self):
        raise RuntimeError

    def __len__(self):
        raise RuntimeError

    def __bool__(self):
        raise RuntimeError


def no_papers():
    looped = []
    looped.append(looped)
    return [
        None, True, False, 0, 1, -1, 2.5, float("nan"), 1j, "", "or", "sum", b"sum", (), [], {}, set(), frozenset(),
        looped, Odd(), Odd, len, range(3), ("or",), ("sum",), ("cut",), ("rest",), ("or", 0), ("or", 0, (), ()),
        ("OR", 0, ()), ("and", 0, ()), ("most", (1, ())), ("or ", 0, ()), (0, 0, ()), (None, 0, ()), (Odd(), 0, ()),
        (("or",), 0, ()), (["or"], 0, ()), ("or", Odd(), ()), ("or", 0, Odd()), ["or", 0, ()], {"or": 0, 0: 1, 1: 2},
        ("cut", Odd(), 0, NO, NO), ("cut", "x", Odd(), NO, NO), ("cut", "x", 0, Odd(), NO), ("cut", "x", 0, NO, Odd()),
        ("sum", Odd()), ("sum", (Odd(),)), ("sum", ((Odd(), 1),)), ("sum", ((0, Odd()),)), ("rest", Odd(), ()),
        ("rest", 2, Odd()), ("rest", 2, (Odd(),)), ("rest", 2, ((Odd(), 1),)), ("rest", 2, ((0, Odd()),)),
        ("rest", 2, ((0, 0, Odd()),)), ("rest", 2, ((0, Odd(), 1),)), ("sum", ((0, 1), None)), (b"or", 0, ()),
    ]


class Anything(Case):
    def test_for_a_paper(self):
        forms = [FALSE, most(0), rest(2, 0)]
        self.yes(ROWS, forms, NO)
        for paper in no_papers():
            self.assertIs(let_by(ROWS, forms, paper), False)
            self.assertIs(let_by([], [], paper), False)
            self.assertIs(let_by(ROWS, forms, ("cut", "x", 1, paper, NO)), False)
            self.assertIs(let_by(ROWS, forms + [("or", (FALSE, FALSE))], ("or", 1, (NO, paper))), False)


class Number(int):
    """A number that tells everybody what they like to hear."""

    def __gt__(self, other):
        return True

    __lt__ = __ge__ = __le__ = __ne__ = __gt__

    def __eq__(self, other):
        return True

    __hash__ = int.__hash__

    def __mul__(self, other):
        return 1

    __rmul__ = __add__ = __radd__ = __mod__ = __rmod__ = __mul__

    def __neg__(self):
        return 1


class Text(str):
    def __eq__(self, other):
        return True

    def __hash__(self):
        return hash("x")


class Pair(tuple):
    """A tuple that has another length, and gives something else each time it is asked."""

    def __len__(self):
        return 2

    def __getitem__(self, place):
        return self.__dict__.setdefault("asked", []).append(place) or len(self.asked)


class Liars(Case):
    """Of these rows and forms there is a book: nothing may be let by."""

    def test_numbers(self):
        forms = [most(5, ("x", -1)), most(-9, ("x", 1)), rest(2, 1, ("x", 1)), ("or", (most(0),))]
        rows = [("x", 0, 9)]
        self.assertTrue(has_book(rows, forms))
        for number in (-1, 0, 1, 2, 3, 4, 5, 6, 99):
            liar = Number(number)
            for place in range(7):
                for other in range(7):
                    self.no(rows, forms, ("sum", ((place, liar), (other, 1))))
                    self.no(rows, forms, ("sum", ((place, 1), (liar, other))))
                    self.no(rows, forms, ("rest", 2, ((place, other, liar),)))
                    self.no(rows, forms, ("rest", liar, ((place, 1), (place, other, 1))))
                    self.no(rows, forms, ("rest", liar, ((place, liar), (place, liar, other))))
            self.no(rows, forms, ("or", liar, ()))
            self.no(rows, forms, ("or", liar, (("sum", ((liar, liar),)),)))
            self.no(rows, forms, ("cut", "x", liar, ("sum", ((0, 1), (5, 1))), ("sum", ((1, 1), (5, 1)))))

    def test_texts(self):
        rows = [("x", 0, 9), ("y", 0, 9)]
        for box in ("x", "y", "z", "@h"):
            self.no(rows, [], ("cut", Text(box), 3, ("sum", ((4, 1), (1, 1))), ("sum", ((4, 1), (1, 1)))))
        self.no(rows, [], (Text("sum"), ((4, 1), (1, 1))))
        self.no(rows, [most(0)], (Text("or"), 0, ()))

    def test_tuples(self):
        for forms in ([most(0)], [("or", (most(0), most(0)))], [rest(2, 0)], [FALSE, most(0)]):
            for parts in ((), (0,), (0, 1), (0, 0, 1), ((0, 1), (0, 1))):
                for paper in (Pair(parts), ("sum", Pair(parts)), ("sum", (Pair(parts),)), ("rest", 2, Pair(parts)),
                              ("rest", 2, (Pair(parts),)), Pair(("sum", (parts,))), Pair(("sum", parts))):
                    self.no([], forms, paper)
            self.no([], [("or", (most(0), most(0)))], ("or", 0, Pair()))


def some_forms(rng):
    told = []
    for _ in range(rng.randrange(1, 4)):
        remark = small_remark(rng, 2, ["x", "y"], [("h", 1)])
        told.append(rng.choice((plain_form, against_form))(remark))
    return told


def papers_in(paper):
    inner = paper[2] if paper[0] == "or" else paper[3:] if paper[0] == "cut" else ()
    return [paper] + [one for member in inner for one in papers_in(member)]


def changed(rng, thing):
    """The thing with one number in it changed, or one part left out, twice there, or changed for another."""
    if isinstance(thing, int):
        return thing + rng.choice((-2, -1, 1, 2))
    if not isinstance(thing, tuple) or not thing:
        return thing
    place = rng.randrange(len(thing))
    kind = rng.choice(("in", "in", "in", "in", "out", "twice", "turn"))
    if kind == "out":
        return thing[:place] + thing[place + 1:]
    if kind == "twice":
        return thing[:place + 1] + thing[place:]
    if kind == "turn":
        return thing[:place] + thing[place:][::-1]
    return thing[:place] + (changed(rng, thing[place]),) + thing[place + 1:]


class Law(Case):
    def test_right_papers_of_many_forms(self):
        rng = source_of(90)
        kinds = {}
        for _ in range(400):
            forms = some_forms(rng)
            if not has_book(ROWS, forms):
                paper = paper_of(ROWS, forms)
                self.yes(ROWS, forms, paper)
                for one in papers_in(paper):
                    kinds[one[0]] = kinds.get(one[0], 0) + 1
        self.assertEqual(sorted(kinds), ["cut", "or", "rest", "sum"])
        self.assertGreater(min(kinds.values()), 50)

    def test_nothing_is_let_by_that_is_not_so(self):
        rng = source_of(91)
        rows = [("x", 0, 2), ("y", -1, 1), ("@h", 0, 1)]
        still = wrong = 0
        for _ in range(400):
            forms = some_forms(rng)
            if has_book(rows, forms):
                continue
            paper = paper_of(rows, forms)
            for _ in range(25):
                bent = changed(rng, paper)
                told = let_by(rows, forms, bent)
                still += told
                for less in (forms[:-1], forms[1:], [changed_form(rng, form) for form in forms]):
                    for one in (paper, bent):
                        if let_by(rows, less, one):
                            self.assertFalse(has_book(rows, less), (less, one))
                        else:
                            wrong += 1
        self.assertGreater(still, 50)
        self.assertGreater(wrong, 1000)

    def test_papers_of_a_program(self):
        text = ("box x 0 2 0\nlock l\nhand a\ntake l\nset x = x + 1\nsay x = 1\nset x = x - 1\nsay x = 0\ngive l\nend\n"
                "hand b\ntake l\nlabel in\nsay x = 0 and l = 2\nwait x <= 0\nsay l = 2\ngive l\nend")
        program, annotation = lay_out(read_program(text))
        shown = failed = 0
        for duty in duties_of(program):
            rows, forms = box_rows(program), duty_forms(program, annotation, duty)
            if has_book(rows, forms):
                failed += 1
            else:
                shown += 1
                self.yes(rows, forms, paper_of(rows, forms))
        self.assertGreater(min(shown, failed), 3)


def changed_form(rng, form):
    if form[0] in ("most", "rest"):
        return (form[0], (form[1][0] + rng.choice((-1, 0, 1)), form[1][1])) + form[2:]
    return (form[0], tuple(changed_form(rng, member) for member in form[1]))


class Kept(Case):
    def test_what_is_handed_in_stays(self):
        forms = [("and", (at_least("x", 2), ("or", (at_most("x", 1), FALSE))))]
        rows = list(ROWS)
        paper = ("cut", "y", 0, ("or", 0, (("sum", ((6, 1), (8, 1))), ("or", 1, ()))),
                 ("or", 0, (("sum", ((6, 1), (8, 1))), ("or", 1, ()))))
        kept = copy.deepcopy((rows, forms, paper))
        for turn in range(3):
            self.yes(rows, forms, paper)
            self.no(rows, forms, ("cut", "y", 0, paper, None))
            self.assertEqual((rows, forms, paper), kept)
