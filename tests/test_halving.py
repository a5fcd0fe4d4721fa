import unittest

from calm.checker import at_least, at_most, first_lists, laid_in, let_by
from calm.drafts import laid_by, needs_of, numbered
from calm.halving import books_within, ends_of, halved
from calm.spans import seen_over
from tests.papers import deep_of, has_book, is_right, is_true
from tests.samples import books_within as all_books
from tests.samples import many_books, some_form, some_stretches, source_of

NAMES = ["x", "y", "z", "@h"]


def most(number, *parts):
    return ("most", (number, parts))


def plain_ends(rows):
    return {box: (low, high) for box, low, high in rows}


def answer(rows, forms):
    lists = laid_in(first_lists(rows), forms)
    ends = ends_of(rows, lists[0])
    told = halved(lists[0] + [("or", members) for members in lists[1]], ends)
    if told[0] == "book":
        return told
    known = lists[0] + [("or", members) for members in lists[1]]
    assert all(form in known for form in told[2]), told
    assert told[2] == needs_of(told[1]), told
    return ("paper", numbered(lists, told[1]))


class Seen(unittest.TestCase):
    def test_what_is_seen_is_so(self):
        rng = source_of(34)
        told = {True: 0, False: 0, None: 0}
        for _ in range(1000):
            rows = some_stretches(rng, NAMES)
            form = some_form(rng, rng.randrange(4), [row[0] for row in rows], 4)
            seen = seen_over(form, plain_ends(rows))
            told[seen] += 1
            if seen is not None:
                self.assertEqual({is_true(form, book) for book in all_books(rows)}, {seen})
        self.assertGreater(min(told.values()), 100)

    def test_of_one_book_all_is_seen(self):
        rng = source_of(35)
        for _ in range(500):
            rows = [(name, number, number) for name, number in zip(NAMES, [rng.randrange(-9, 9) for _ in NAMES])]
            form = some_form(rng, 3, NAMES, 9)
            self.assertIs(seen_over(form, plain_ends(rows)), has_book(rows, [form]))

    def test_edges(self):
        ends = {"x": (1, 3), "y": (4, 4)}
        for form, seen in (
            (most(-3, ("x", 1)), True), (most(-2, ("x", 1)), None), (most(-1, ("x", 1)), None),
            (most(0, ("x", 1)), False), (most(3, ("x", -1)), None), (most(4, ("x", -1)), False),
            (most(1, ("x", -1)), True), (("rest", (0, (("y", 1),)), 4), True), (("rest", (0, (("y", 1),)), 3), False),
            (("rest", (0, (("x", 4), ("y", 1))), 4), True), (("rest", (1, (("x", 4), ("y", 1))), 2), False),
            (("rest", (1, (("x", 4), ("y", 1))), 6), False), (("rest", (0, (("x", 4), ("y", 1))), 6), None),
            (("and", ()), True), (("or", ()), False),
        ):
            self.assertIs(seen_over(form, ends), seen, form)


class Halved(unittest.TestCase):
    def test_seeded(self):
        rng = source_of(36)
        told = {"book": 0, "paper": 0}
        for _ in range(800):
            rows = some_stretches(rng, NAMES)
            forms = [some_form(rng, rng.randrange(4), [row[0] for row in rows], 5) for _ in range(rng.randrange(5))]
            one = answer(rows, forms)
            self.assertTrue(is_right(rows, forms, one), (rows, forms, one))
            self.assertEqual(one[0] == "book", has_book(rows, forms))
            told[one[0]] += 1
        self.assertGreater(min(told.values()), 200)

    def test_ends(self):
        rows = [("x", -9, 9), ("y", 5, 5)]
        atoms = [at_most("x", 4), at_least("x", -2), at_most("x", 7), at_least("x", -3), most(-2, ("x", 2)),
                 most(0, ("x", 1), ("y", 1)), ("rest", (0, (("x", 1),)), 2), most(0)]
        ends = ends_of(rows, atoms)
        self.assertEqual(ends["x"], (-2, 4, at_least("x", -2), at_most("x", 4)))
        self.assertEqual(ends["y"], (5, 5, at_least("y", 5), at_most("y", 5)))
        self.assertEqual(books_within(ends), 7)
        self.assertEqual(books_within({}), 1)
        self.assertEqual(books_within(ends_of(rows, [at_most("x", -10)])), 0)
        self.assertEqual(books_within(ends_of(rows, [])), many_books(rows))

    def test_ends_turned_about(self):
        rows = [("x", 0, 9), ("y", 0, 9)]
        forms = [("rest", (1, (("x", 1),)), 5), at_least("x", 6), at_most("x", 5)]
        told = answer(rows, forms)
        self.assertEqual(told, ("paper", ("sum", ((5, 1), (6, 1)))))
        self.assertTrue(let_by(rows, forms, told[1]))

    def test_long_stretches_are_not_deep(self):
        rows = [("x", 0, 119), ("y", 0, 119)]
        forms = [most(1, ("x", -3), ("y", 3)), most(-2, ("x", 3), ("y", -3))]
        told = answer(rows, forms)
        self.assertTrue(is_right(rows, forms, told))
        self.assertLessEqual(deep_of(told[1]), 15)

    def test_what_is_not_needed_is_not_cut(self):
        rows = [("x", 0, 9), ("y", 0, 99)]
        forms = [("rest", (0, (("y", 1),)), 7), ("and", (most(5, ("x", -2)), most(-5, ("x", 2))))]
        told = answer(rows, forms)
        self.assertTrue(let_by(rows, forms, told[1]))
        self.assertNotIn("'y'", repr(told[1]))


class Drafts(unittest.TestCase):
    def test_what_is_laid_in(self):
        low, inner = at_most("x", 1), ("or", (most(1), most(2)))
        self.assertEqual(laid_by(low), [low])
        self.assertEqual(laid_by(inner), [inner])
        self.assertEqual(laid_by(("and", (inner, ("and", (low, inner))))), [low, inner, inner])

    def test_needs(self):
        one, other = most(1, ("x", 1)), most(0, ("x", -1))
        leaf = ("sum", [(one, 1), (other, 1)])
        self.assertEqual(needs_of(leaf), {one: True, other: True})
        self.assertEqual(needs_of(("rest", 2, [(one, other, -1), (low_rest(), 3)])),
                         {one: True, other: True, low_rest(): True})
        form = ("or", (one, ("and", (one, other))))
        self.assertEqual(needs_of(("or", form, [leaf, leaf])), {form: True, other: True})
        self.assertEqual(needs_of(("cut", "x", 5, [leaf, leaf])), {one: True, other: True})
        below, above = ("sum", [(at_most("x", 5), 1), (other, 1)]), ("sum", [(at_least("x", 6), 1), (one, 1)])
        self.assertEqual(needs_of(("cut", "x", 5, [below, above])), {one: True, other: True})
        self.assertEqual(needs_of(("cut", "x", 5, [below, below])), {at_most("x", 5): True, other: True})


def low_rest():
    return ("rest", (0, (("x", 1),)), 4)


if __name__ == "__main__":
    unittest.main()
