import itertools
import unittest

from calm.sums import boxes_of, by, minus, plus, put, sum_of, value
from tests.samples import BOXES, some_sum, source_of

BIG = 10 ** 9 - 1


def one_box(box):
    return (0, ((box, 1),))


class Made(unittest.TestCase):
    def test_parts_are_sorted_by_box(self):
        pairs = [("b", 2), ("a", 1), ("ab", -3), ("a2", 4), ("orx", 1), ("or", 5), ("andy", 1)]
        told = (7, (("a", 1), ("a2", 4), ("ab", -3), ("andy", 1), ("b", 2), ("or", 5), ("orx", 1)))
        for order in itertools.islice(itertools.permutations(pairs), 0, None, 97):
            self.assertEqual(sum_of(7, list(order)), told)

    def test_each_box_stands_once(self):
        self.assertEqual(sum_of(0, [("x", 2), ("y", 1), ("x", 3), ("x", -1)]), (0, (("x", 4), ("y", 1))))

    def test_times_of_nought_fall_out(self):
        self.assertEqual(sum_of(3, [("x", 2), ("y", 0), ("x", -2)]), (3, ()))
        self.assertEqual(sum_of(0, []), (0, ()))

    def test_kinds(self):
        one = sum_of(1, [("x", 2)])
        self.assertIs(type(one), tuple)
        self.assertIs(type(one[1]), tuple)
        self.assertIs(type(one[1][0]), tuple)

    def test_pairs_stay_as_they_were(self):
        pairs = [("b", 2), ("a", 1), ("b", 0)]
        one = sum_of(1, pairs)
        self.assertEqual(pairs, [("b", 2), ("a", 1), ("b", 0)])
        pairs.append(("c", 1))
        self.assertEqual(one, (1, (("a", 1), ("b", 2))))


class Reckoned(unittest.TestCase):
    def test_plus(self):
        one = (4, (("a", 1), ("b", -2)))
        self.assertEqual(plus(one, (-3, (("ab", 5), ("b", 2)))), (1, (("a", 1), ("ab", 5))))
        self.assertEqual(plus((0, ()), (0, ())), (0, ()))

    def test_minus(self):
        one = (4, (("a", 1), ("b", -2)))
        self.assertEqual(minus(one, (1, (("a", 1), ("c", 3)))), (3, (("b", -2), ("c", -3))))
        self.assertEqual(minus(one, one), (0, ()))

    def test_by(self):
        one = (4, (("a", 1), ("b", -2)))
        self.assertEqual(by(one, 3), (12, (("a", 3), ("b", -6))))
        self.assertEqual(by(one, -2), (-8, (("a", -2), ("b", 4))))
        self.assertEqual(by(one, 1), one)
        self.assertEqual(by(one, 0), (0, ()))

    def test_value(self):
        self.assertEqual(value((4, (("a", 1), ("b", -2))), {"a": 10, "b": 3, "c": 100}), 8)
        self.assertEqual(value((-7, ()), {}), -7)

    def test_great_numbers(self):
        one = (BIG, (("a", BIG), ("b", -BIG)))
        book = {"a": 10 ** 30, "b": -10 ** 30}
        self.assertEqual(value(one, book), BIG + 2 * BIG * 10 ** 30)
        self.assertEqual(by(one, BIG), (BIG ** 2, (("a", BIG ** 2), ("b", -BIG ** 2))))
        self.assertEqual(plus(one, one), (2 * BIG, (("a", 2 * BIG), ("b", -2 * BIG))))

    def test_boxes_of(self):
        one = (4, (("a", 1), ("ab", -2), ("b", 1)))
        told = boxes_of(one)
        self.assertEqual(told, ["a", "ab", "b"])
        told.append("z")
        self.assertEqual(boxes_of(one), ["a", "ab", "b"])
        self.assertEqual(boxes_of((3, ())), [])


class Put(unittest.TestCase):
    def test_other_boxes_stay(self):
        one = (1, (("a", 2), ("b", 3)))
        self.assertEqual(put(one, {}), one)
        self.assertEqual(put(one, {"c": (9, ())}), one)
        self.assertEqual(put(one, {"a": (5, ())}), (11, (("b", 3),)))

    def test_all_at_once(self):
        one = (0, (("a", 2), ("b", 3)))
        self.assertEqual(put(one, {"a": one_box("b"), "b": one_box("a")}), (0, (("a", 3), ("b", 2))))
        self.assertEqual(put(one_box("a"), {"a": (1, (("a", 1),))}), (1, (("a", 1),)))

    def test_sums_that_name_the_same_boxes(self):
        one = (1, (("a", 2), ("b", -1), ("c", 4)))
        sets = {"a": (3, (("c", 1), ("d", 1))), "b": (-1, (("c", 5), ("d", 2)))}
        self.assertEqual(put(one, sets), (8, (("c", 1),)))

    def test_what_is_handed_in_stays(self):
        sets = {"a": (3, (("b", 1),)), "b": (0, ())}
        put((1, (("a", 2), ("b", -1))), sets)
        self.assertEqual(sets, {"a": (3, (("b", 1),)), "b": (0, ())})


class Laws(unittest.TestCase):
    def setUp(self):
        self.rng = source_of(4)

    def book(self):
        values = (0, 1, -1, 5, -7, 10 ** 30, -10 ** 30 + 1)
        return {box: self.rng.choice(values) for box in BOXES}

    def check_form(self, one):
        boxes = [box for box, times in one[1]]
        self.assertEqual(boxes, sorted(set(boxes)))
        self.assertNotIn(0, [times for box, times in one[1]])

    def test_values_of_made_sums(self):
        for _ in range(400):
            one, other, book = some_sum(self.rng), some_sum(self.rng), self.book()
            left, right, times = value(one, book), value(other, book), self.rng.randrange(-4, 5)
            for made, told in ((plus(one, other), left + right), (minus(one, other), left - right),
                               (by(one, times), times * left)):
                self.check_form(made)
                self.assertEqual(value(made, book), told)

    def test_value_of_what_is_put(self):
        for _ in range(400):
            one, book = some_sum(self.rng), self.book()
            sets = {box: some_sum(self.rng) for box in self.rng.sample(BOXES, 4)}
            later = dict(book)
            later.update({box: value(inner, book) for box, inner in sets.items()})
            made = put(one, sets)
            self.check_form(made)
            self.assertEqual(value(made, book), value(one, later))
