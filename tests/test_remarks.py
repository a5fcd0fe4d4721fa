import unittest

from calm.remarks import behind, boxes_in, hands_in, holds, parts_in, parts_of
from calm.sums import value
from tests.samples import BOXES, HANDS, some_remark, some_sets, source_of

TRUE = ("and", ())
FALSE = ("or", ())


def most(number, box="x"):
    return ("most", (number, ((box, 1),)))


class Holds(unittest.TestCase):
    def check(self, remark, told, book=None, places=None):
        self.assertIs(holds(remark, book or {}, places or {}), told, remark)

    def test_most(self):
        for number, told in ((-1, True), (0, True), (1, False)):
            self.check(("most", (number, ())), told)
            self.check(most(number - 5), told, {"x": 5})
            self.check(most(number + 10 ** 30), told, {"x": -10 ** 30})
        self.check(("most", (0, (("x", -1),))), False, {"x": -1})

    def test_rest_by_each_divisor(self):
        for divisor in range(2, 13):
            for number in range(-30, 31):
                told = number in [divisor * k for k in range(-30, 31)]
                self.check(("rest", (number, ()), divisor), told)
                self.check(("rest", (0, (("x", -1),)), divisor), told, {"x": number})

    def test_at(self):
        places = {"h": 3, "h2": 0}
        self.check(("at", "h", 3), True, places=places)
        self.check(("at", "h", 0), False, places=places)
        self.check(("at", "h2", 0), True, places=places)

    def test_true_and_false_one(self):
        self.check(TRUE, True)
        self.check(FALSE, False)
        self.check(("not", TRUE), False)
        self.check(("not", FALSE), True)

    def test_two_and_three_members(self):
        for one in (TRUE, FALSE):
            for other in (TRUE, FALSE):
                pair = [one == TRUE, other == TRUE]
                self.check(("and", (one, other)), all(pair))
                self.check(("or", (one, other)), any(pair))
                for third in (TRUE, FALSE):
                    triple = pair + [third == TRUE]
                    self.check(("and", (one, other, third)), all(triple))
                    self.check(("or", (one, other, third)), any(triple))

    def test_within_one_another(self):
        inner = ("or", (most(-3), ("not", ("rest", (0, (("x", 1),)), 2))))
        whole = ("and", (inner, ("not", ("at", "h", 1)), TRUE))
        self.check(whole, True, {"x": 3}, {"h": 0})
        self.check(whole, True, {"x": 5}, {"h": 0})
        self.check(whole, False, {"x": 4}, {"h": 0})
        self.check(whole, False, {"x": 3}, {"h": 1})

    def test_eighteen_deep(self):
        remark = most(0)
        for turn in range(17):
            remark = ("not", remark) if turn < 9 else ("and", (remark, TRUE))
        self.check(remark, False, {"x": 0})
        self.check(remark, True, {"x": 1})


class Told(unittest.TestCase):
    def setUp(self):
        self.remark = ("and", (
            ("or", (most(1, "b"), ("rest", (0, (("a", 2), ("b", 1), ("orx", 1))), 3))),
            ("not", ("at", "h2", 4)),
            ("or", (("at", "h", 0), ("at", "h2", 1), FALSE)),
        ))

    def test_boxes_in(self):
        self.assertEqual(boxes_in(self.remark), ["a", "b", "orx"])
        self.assertEqual(boxes_in(("not", most(3, "z"))), ["z"])
        self.assertEqual(boxes_in(("at", "h", 0)), [])
        self.assertEqual(boxes_in(TRUE), [])

    def test_hands_in(self):
        self.assertEqual(hands_in(self.remark), ["h", "h2"])
        self.assertEqual(hands_in(most(3)), [])
        self.assertEqual(hands_in(FALSE), [])

    def test_parts_in(self):
        self.assertEqual(parts_in(self.remark), 10)
        self.assertEqual(parts_in(TRUE), 1)
        self.assertEqual(parts_in(most(1)), 1)
        self.assertEqual(parts_in(("not", ("not", ("at", "h", 1)))), 3)
        self.assertEqual(parts_in(("or", (TRUE, TRUE))), 3)

    def test_parts_come_from_the_left(self):
        kinds = [part[0] for part in parts_of(self.remark)]
        self.assertEqual(kinds, ["and", "or", "most", "rest", "not", "at", "or", "at", "at", "or"])

    def test_lists_are_the_askers_own(self):
        for ask in (boxes_in, hands_in):
            told = ask(self.remark)
            kept = list(told)
            told.clear()
            self.assertEqual(ask(self.remark), kept)


class Behind(unittest.TestCase):
    def test_boxes_are_put_at_once(self):
        sets = (("x", (0, (("y", 1),))), ("y", (1, (("x", 1),))))
        remark = ("most", (0, (("x", 1), ("y", 3), ("z", 1))))
        self.assertEqual(behind(remark, "h", sets, 1), ("most", (3, (("x", 3), ("y", 1), ("z", 1)))))
        remark = ("rest", (2, (("x", 2),)), 5)
        self.assertEqual(behind(remark, "h", sets, 1), ("rest", (2, (("y", 2),)), 5))

    def test_ats(self):
        self.assertEqual(behind(("at", "h", 4), "h", (), 4), TRUE)
        self.assertEqual(behind(("at", "h", 3), "h", (), 4), FALSE)
        self.assertEqual(behind(("at", "h2", 4), "h", (), 4), ("at", "h2", 4))
        self.assertEqual(behind(("at", "h2", 3), "h", (), 4), ("at", "h2", 3))

    def test_all_kinds_stay_what_they_are(self):
        remark = ("or", (("and", (most(0), ("at", "h", 2))), ("not", ("at", "h", 1)), TRUE, FALSE))
        told = ("or", (("and", (("most", (7, ())), TRUE)), ("not", FALSE), TRUE, FALSE))
        self.assertEqual(behind(remark, "h", (("x", (7, ())),), 2), told)

    def test_a_step_that_sets_nothing(self):
        remark = ("and", (most(3), ("rest", (0, (("y", 2),)), 4), ("at", "h2", 1)))
        self.assertEqual(behind(remark, "h", (), 0), remark)

    def test_holds_ahead_just_where_it_holds_behind(self):
        rng = source_of(6)
        seen = {True: 0, False: 0}
        for _ in range(600):
            remark = some_remark(rng, 4, (0, 1, 2, 3))
            hand, to, sets = rng.choice(HANDS), rng.randrange(4), some_sets(rng)
            book = {box: rng.choice((0, 1, -1, 3, -8, 10 ** 30)) for box in BOXES}
            places = {name: rng.randrange(4) for name in HANDS}
            later = dict(book)
            later.update({box: value(one, book) for box, one in sets})
            told = holds(remark, later, dict(places, **{hand: to}))
            self.assertIs(holds(behind(remark, hand, sets, to), book, places), told)
            seen[told] += 1
        self.assertGreater(min(seen.values()), 100)

    def test_what_is_handed_in_stays(self):
        book, places = {"x": 1, "y": 2}, {"h": 0}
        holds(("and", (most(1), ("at", "h", 1))), book, places)
        self.assertEqual((book, places), ({"x": 1, "y": 2}, {"h": 0}))
