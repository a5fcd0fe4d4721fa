import copy
import unittest

from calm.forms import against_form, form_parts, form_true, plain_form
from calm.remarks import holds
from tests.samples import small_remark, source_of

TRUE = ("and", ())
FALSE = ("or", ())
X = ("most", (-3, (("x", 1), ("y", -2))))
NOT_X = ("most", (4, (("x", -1), ("y", 2))))
REST = ("rest", (1, (("x", 2),)), 4)
NOT_REST = ("or", tuple(("rest", (1 - k, (("x", 2),)), 4) for k in (1, 2, 3)))
AT = ("at", "h", 3)
IS_AT = ("and", (("most", (-3, (("@h", 1),))), ("most", (3, (("@h", -1),)))))
NOT_AT = ("or", (("most", (-2, (("@h", 1),))), ("most", (4, (("@h", -1),)))))


class Forms(unittest.TestCase):
    def check(self, remark, plain, against):
        self.assertEqual(plain_form(remark), plain)
        self.assertEqual(against_form(remark), against)

    def test_most(self):
        self.check(X, X, NOT_X)
        self.check(("most", (0, ())), ("most", (0, ())), ("most", (1, ())))
        great = 10 ** 59
        self.check(("most", (great, (("x", -great),))), ("most", (great, (("x", -great),))),
                   ("most", (1 - great, (("x", great),))))

    def test_rest(self):
        self.check(REST, REST, NOT_REST)
        self.check(("rest", (0, ()), 2), ("rest", (0, ()), 2), ("or", (("rest", (-1, ()), 2),)))
        for divisor in range(2, 13):
            one = (5, (("x", 1),))
            members = [("rest", (5 - k, (("x", 1),)), divisor) for k in range(1, divisor)]
            self.check(("rest", one, divisor), ("rest", one, divisor), ("or", tuple(members)))

    def test_at(self):
        self.check(AT, IS_AT, NOT_AT)
        self.check(("at", "b2", 0), ("and", (("most", (0, (("@b2", 1),))), ("most", (0, (("@b2", -1),))))),
                   ("or", (("most", (1, (("@b2", 1),))), ("most", (1, (("@b2", -1),))))))

    def test_true_and_false_one(self):
        self.check(TRUE, TRUE, FALSE)
        self.check(FALSE, FALSE, TRUE)

    def test_and_or_not(self):
        self.check(("and", (X, REST, AT)), ("and", (X, REST, IS_AT)), ("or", (NOT_X, NOT_REST, NOT_AT)))
        self.check(("or", (X, REST, AT)), ("or", (X, REST, IS_AT)), ("and", (NOT_X, NOT_REST, NOT_AT)))
        for remark, plain, against in ((X, X, NOT_X), (REST, REST, NOT_REST), (AT, IS_AT, NOT_AT), (TRUE, TRUE, FALSE)):
            self.check(("not", remark), against, plain)
            self.check(("not", ("not", remark)), plain, against)

    def test_an_and_of_one_member(self):
        self.check(("and", (X,)), ("and", (X,)), ("or", (NOT_X,)))

    def test_within_one_another(self):
        inner = ("or", (("not", AT), ("and", (X, ("not", REST)))))
        self.check(("not", ("and", (inner, TRUE))),
                   ("or", (("and", (IS_AT, ("or", (NOT_X, REST)))), FALSE)),
                   ("and", (("or", (NOT_AT, ("and", (X, NOT_REST)))), TRUE)))

    def test_eighteen_deep(self):
        remark, plain, against = X, X, NOT_X
        for turn in range(17):
            if turn % 2:
                remark, plain, against = ("not", remark), against, plain
            else:
                remark, plain, against = ("or", (remark, AT)), ("or", (plain, IS_AT)), ("and", (against, NOT_AT))
        self.check(remark, plain, against)


class FormTrue(unittest.TestCase):
    def check(self, told, form, **book):
        self.assertIs(form_true(form, {name.replace("at_", "@"): number for name, number in book.items()}), told)

    def test_atoms(self):
        self.check(True, X, x=3, y=0)
        self.check(False, X, x=4, y=0)
        self.check(True, ("rest", (1, (("x", 1),)), 3), x=2)
        self.check(False, ("rest", (1, (("x", 1),)), 3), x=3)

    def test_places(self):
        for place in range(-1, 7):
            self.check(place == 3, IS_AT, at_h=place)
            self.check(place != 3, NOT_AT, at_h=place)

    def test_any_many_members(self):
        yes, no = ("most", (0, ())), ("most", (1, ()))
        for members, whole, some in (((), True, False), ((yes,), True, True), ((no,), False, False),
                                     ((yes, no), False, True), ((no, yes, yes), False, True), ((yes,) * 4, True, True)):
            self.check(whole, ("and", members))
            self.check(some, ("or", members))

    def test_just_one_of_the_two_is_true(self):
        rng = source_of(70)
        told = {True: 0, False: 0}
        for _ in range(300):
            remark = small_remark(rng, 3, ["x", "y"], [("h", 3), ("g", 2)])
            for _ in range(20):
                values = {"x": rng.randrange(-4, 5), "y": rng.randrange(-4, 5)}
                places = {"h": rng.randrange(4), "g": rng.randrange(3)}
                book = {**values, "@h": places["h"], "@g": places["g"]}
                true = holds(remark, values, places)
                self.assertIs(form_true(plain_form(remark), book), true)
                self.assertIs(form_true(against_form(remark), book), not true)
                told[true] += 1
        self.assertGreater(min(told.values()), 1000)


class FormParts(unittest.TestCase):
    def test_counts(self):
        for form, many in ((X, 1), (REST, 1), (TRUE, 1), (FALSE, 1), (IS_AT, 3), (NOT_REST, 4), (("and", (X,)), 2),
                           (("and", (X, ("or", (X, FALSE)), IS_AT)), 8)):
            self.assertEqual(form_parts(form), many)


class Kept(unittest.TestCase):
    def test_what_is_handed_in_stays(self):
        remark = ("not", ("and", (X, REST, AT)))
        book = {"x": 1, "y": 2, "@h": 3}
        kept = copy.deepcopy((remark, book))
        form_true(plain_form(remark), book)
        form_true(against_form(remark), book)
        self.assertEqual((remark, book), kept)
        self.assertEqual(plain_form(remark), plain_form(remark))
