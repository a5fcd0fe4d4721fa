import copy
import unittest

from calm.duties import box_rows, duties_of, duty_forms
from calm.forms import form_true
from calm.laying import lay_out
from calm.reached import breach
from calm.remarks import holds
from calm.stands import can, done, first_stand, fits
from calm.trees import read_program
from tests.samples import all_stands, small_annotation, small_program, source_of

TRUE = ("and", ())
FALSE = ("or", ())


def most(number, *parts):
    return ("most", (number, parts))


def is_number(box, number):
    return ("and", (most(-number, (box, 1)), most(number, (box, -1))))


PROGRAM = (
    [("x", "", -2, 5, 3), ("y", "a", 0, 10 ** 30, 7), ("l", "", 0, 2, 0)],
    [("a", 3), ("b", 2)],
    [
        ("a", 0, TRUE, (), 2),
        ("b", 0, most(0, ("l", 1)), (("l", (2, ())),), 1),
        ("a", 2, ("at", "b", 1), (("x", (1, (("x", 1),))), ("y", (-4, (("x", 2), ("y", 1))))), 0),
    ],
    ("l",),
)
X3 = most(-3, ("x", 1))
X4 = most(4, ("x", -1))
ANNOTATION = {
    ("a", 0): ("and", (X3, ("not", ("at", "b", 1)))),
    ("a", 1): FALSE,
    ("a", 2): ("or", (("at", "a", 2), ("rest", (0, (("x", 1), ("y", 1))), 3))),
    ("b", 0): most(-6, ("x", 1), ("y", -1)),
    ("b", 1): ("not", ("or", (("at", "a", 0), ("at", "a", 1), ("at", "b", 0)))),
}


class Rows(unittest.TestCase):
    def test_rows(self):
        self.assertEqual(box_rows(PROGRAM), [
            ("x", -2, 5), ("y", 0, 10 ** 30), ("l", 0, 2), ("@a", 0, 2), ("@b", 0, 1),
        ])
        self.assertEqual(box_rows(([], [("h", 1)], [], ())), [("@h", 0, 0)])

    def test_duties_of_more_hands(self):
        self.assertEqual(duties_of(PROGRAM), [
            ("start", "a"), ("start", "b"), ("own", 0), ("own", 1), ("own", 2),
            ("other", 0, "b", 0), ("other", 0, "b", 1),
            ("other", 1, "a", 0), ("other", 1, "a", 1), ("other", 1, "a", 2),
            ("other", 2, "b", 0), ("other", 2, "b", 1),
        ])

    def test_duties_of_three_hands(self):
        program = ([], [("c", 1), ("a", 2), ("b", 1)], [("a", 0, TRUE, (), 1), ("b", 0, TRUE, (), 0)], ())
        self.assertEqual(duties_of(program), [
            ("start", "c"), ("start", "a"), ("start", "b"), ("own", 0), ("own", 1),
            ("other", 0, "c", 0), ("other", 0, "b", 0),
            ("other", 1, "c", 0), ("other", 1, "a", 0), ("other", 1, "a", 1),
        ])

    def test_duties_of_one_hand(self):
        program = ([], [("h", 2)], [("h", 0, TRUE, (), 1), ("h", 1, TRUE, (), 1)], ())
        self.assertEqual(duties_of(program), [("start", "h"), ("own", 0), ("own", 1)])
        self.assertEqual(duties_of(([], [("h", 2)], [], ())), [("start", "h")])


class Forms(unittest.TestCase):
    def check(self, duty, forms):
        self.assertEqual(duty_forms(PROGRAM, ANNOTATION, duty), forms)

    def test_start(self):
        given = [is_number("x", 3), is_number("y", 7), is_number("l", 0), is_number("@a", 0), is_number("@b", 0)]
        self.check(("start", "a"), given + [("or", (X4, is_number("@b", 1)))])
        self.check(("start", "b"), given + [most(7, ("x", -1), ("y", 1))])

    def test_own_that_sets_nothing(self):
        from_a = ("and", (X3, ("or", (most(0, ("@b", 1)), most(2, ("@b", -1))))))
        # At the step's to, 2, the at of its own hand is true, so the or can't be false.
        rest = tuple(("rest", (-k, (("x", 1), ("y", 1))), 3) for k in (1, 2))
        self.check(("own", 0), [is_number("@a", 0), from_a, TRUE, ("and", (FALSE, ("or", rest)))])

    def test_own_that_sets_one_box(self):
        asked = ("or", (is_number("@a", 0), is_number("@a", 1), FALSE))
        self.check(("own", 1), [
            is_number("@b", 0), most(-6, ("x", 1), ("y", -1)), most(0, ("l", 1)),
            ("and", (most(-2), most(0))),
            asked,
        ])

    def test_own_that_sets_more_boxes(self):
        at_2 = is_number("@a", 2)
        self.check(("own", 2), [
            at_2, ("or", (at_2, ("rest", (0, (("x", 1), ("y", 1))), 3))), is_number("@b", 1),
            ("and", (most(-3, ("x", -1)), most(-4, ("x", 1)))),
            ("and", (most(4, ("x", -2), ("y", -1)), most(-4 - 10 ** 30, ("x", 2), ("y", 1)))),
            ("or", (most(3, ("x", -1)), is_number("@b", 1))),
        ])

    def test_other(self):
        at_2, at_b = is_number("@a", 2), is_number("@b", 0)
        self.check(("other", 2, "b", 0), [
            at_2, at_b,
            ("or", (at_2, ("rest", (0, (("x", 1), ("y", 1))), 3))), most(-6, ("x", 1), ("y", -1)),
            is_number("@b", 1),
            ("and", (most(-3, ("x", -1)), most(-4, ("x", 1)))),
            ("and", (most(4, ("x", -2), ("y", -1)), most(-4 - 10 ** 30, ("x", 2), ("y", 1)))),
            # Behind the step: x + 1 - (y + 2 * x - 4) - 6 is no more than 0; against it.
            most(2, ("x", 1), ("y", 1)),
        ])

    def test_other_of_a_step_that_sets_nothing(self):
        # What b's remark says of the place of a is settled by the step, what it says of b stays.
        self.check(("other", 0, "b", 1), [
            is_number("@a", 0), is_number("@b", 1),
            ("and", (X3, ("or", (most(0, ("@b", 1)), most(2, ("@b", -1)))))),
            ("and", (("or", (most(1, ("@a", 1)), most(1, ("@a", -1)))),
                     ("or", (most(0, ("@a", 1)), most(2, ("@a", -1)))),
                     ("or", (most(1, ("@b", 1)), most(1, ("@b", -1)))))),
            TRUE,
            ("or", (FALSE, FALSE, is_number("@b", 0))),
        ])

    def test_other_of_a_step_that_sets_one_box(self):
        self.check(("other", 1, "a", 1), [
            is_number("@b", 0), is_number("@a", 1), most(-6, ("x", 1), ("y", -1)), FALSE, most(0, ("l", 1)),
            ("and", (most(-2), most(0))), TRUE,
        ])


def breaks(program, annotation, duty, stand):
    """Whether the stand fits what the duty takes for given and breaks what is to follow, by the steps themselves."""
    names = [box[0] for box in program[0]]
    places = dict(zip([hand[0] for hand in program[1]], stand[0]))

    def right(hand, stand):
        there = dict(zip(places, stand[0]))
        return holds(annotation[(hand, there[hand])], dict(zip(names, stand[1])), there)

    if duty[0] == "start":
        return stand == first_stand(program) and not right(duty[1], stand)
    hand = program[2][duty[1]][0]
    if duty[1] not in can(program, stand) or not right(hand, stand):
        return False
    if duty[0] == "own":
        return not right(hand, done(program, stand, duty[1]))
    if places[duty[2]] != duty[3] or not right(duty[2], stand):
        return False
    return not right(duty[2], done(program, stand, duty[1]))


def book_of(program, stand):
    names = [box[0] for box in program[0]] + ["@" + hand[0] for hand in program[1]]
    return dict(zip(names, stand[1] + stand[0]))


class Books(unittest.TestCase):
    def test_all_forms_true_just_where_the_duty_is_broken(self):
        rng = source_of(80)
        told = {}
        for _ in range(150):
            program = small_program(rng)
            annotation = small_annotation(rng, program, 1)
            for duty in duties_of(program):
                forms = duty_forms(program, annotation, duty)
                for stand in all_stands(program):
                    true = all(form_true(form, book_of(program, stand)) for form in forms)
                    self.assertEqual(true, breaks(program, annotation, duty, stand))
                    told[(duty[0], true)] = told.get((duty[0], true), 0) + 1
        self.assertEqual(len(told), 6)
        self.assertGreater(min(told.values()), 50)

    def test_what_is_kept_is_calm(self):
        rng = source_of(81)
        kept = 0
        for _ in range(400):
            program = small_program(rng)
            annotation = small_annotation(rng, program, 1)
            books = [book_of(program, stand) for stand in all_stands(program)]
            forms = [duty_forms(program, annotation, duty) for duty in duties_of(program)]
            if not any(all(form_true(form, book) for form in duty) for duty in forms for book in books):
                kept += 1
                self.assertIsNone(breach(program, annotation, 10 ** 5))
        self.assertGreater(kept, 20)

    def test_a_laid_out_program(self):
        text = "box x 0 3 0\nhand a\nsay x <= 0\nset x = x + 1\nsay x >= 1\nend\nhand b\nsay x <= 1\nset x = 2\nend"
        program, annotation = lay_out(read_program(text))
        failing = []
        for duty in duties_of(program):
            forms = duty_forms(program, annotation, duty)
            if any(all(form_true(form, book_of(program, stand)) for form in forms) for stand in all_stands(program)):
                failing.append(duty)
        self.assertEqual(failing, [("other", 1, "a", 0)])
        self.assertEqual(fits(program, annotation, first_stand(program)), [])


class Kept(unittest.TestCase):
    def test_what_is_handed_in_stays_and_what_is_told_is_new(self):
        program, annotation = copy.deepcopy(PROGRAM), copy.deepcopy(ANNOTATION)
        duties = duties_of(program)
        told = [duty_forms(program, annotation, duty) for duty in duties]
        rows = box_rows(program)
        kept = copy.deepcopy((duties, told, rows))
        self.assertEqual((program, annotation), (PROGRAM, ANNOTATION))
        for forms in told:
            forms.clear()
        duties.clear()
        rows.clear()
        self.assertEqual((duties_of(program), box_rows(program)), (kept[0], kept[2]))
        self.assertEqual([duty_forms(program, annotation, duty) for duty in kept[0]], kept[1])
