import copy
import unittest
from unittest import mock

from calm import seeking
from calm.court import court_of, shown_by
from calm.duties import box_rows
from calm.errors import TooMany
from calm.laying import lay_out
from calm.least import least_stretches, stretch_remarks
from calm.reached import reached
from calm.stands import can, done, fits
from calm.trees import read_program
from tests.samples import all_stands, many_books, small_annotation, small_program, source_of

MILLION = 10 ** 6


def laid(text):
    return lay_out(read_program(text))[0]


def within(values, pairs):
    return all(low <= number <= high for number, (low, high) in zip(values, pairs))


class Slow:
    """The words of [33] over all stands of a small program."""

    def __init__(self, program):
        self.program = program
        self.table = {(hand, place): None for hand, many in program[1] for place in range(many)}
        for hand, many in program[1]:
            self.table[(hand, 0)] = tuple((box[4], box[4]) for box in program[0])
        self.steps = {number: [] for number in range(len(program[2]))}
        for stand in all_stands(program):
            for number in can(program, stand):
                self.steps[number].append((stand, done(program, stand, number)[1]))

    def widen(self, there, values):
        if values:
            pairs = [(min(some), max(some)) for some in zip(*values)]
            old = self.table[there] or pairs
            self.table[there] = tuple((min(one[0], other[0]), max(one[1], other[1])) for one, other in zip(pairs, old))

    def go_round(self):
        for number, (hand, start, guard, sets, to) in enumerate(self.program[2]):
            if self.table[(hand, start)] is None:
                continue
            self.widen((hand, to), [values for stand, values in self.steps[number]
                                    if within(stand[1], self.table[(hand, start)])])
            for spot, (other, many) in enumerate(self.program[1]):
                for place in range(many if other != hand else 0):
                    pairs = self.table[(other, place)]
                    if pairs is not None:
                        self.widen((other, place), [
                            values for stand, values in self.steps[number] if stand[0][spot] == place
                            and within(stand[1], self.table[(hand, start)]) and within(stand[1], pairs)])

    def rounds(self):
        """The table, and how many rounds change something."""
        many = 0
        while True:
            before = dict(self.table)
            self.go_round()
            if self.table == before:
                return self.table, many
            many += 1


class Remarks(unittest.TestCase):
    def test_by_hand(self):
        program = laid("box x 0 9 0\nbox y -5 5 0\nhand p\nwait true\nend")
        table = {("p", 0): None, ("p", 1): ((2, 3), (-4, 4))}
        self.assertEqual(stretch_remarks(program, table), {
            ("p", 0): ("or", ()),
            ("p", 1): ("and", (("most", (2, (("x", -1),))), ("most", (-3, (("x", 1),))),
                               ("most", (-4, (("y", -1),))), ("most", (-4, (("y", 1),))))),
        })

    def test_one_box_and_none(self):
        program = laid("box x 0 9 0\nhand p\nend\nhand q\nend")
        table = {("p", 0): ((7, 7),), ("p", 1): None, ("q", 0): ((0, 9),), ("q", 1): ((1, 2),)}
        told = stretch_remarks(program, table)
        self.assertEqual(told[("p", 0)], ("and", (("most", (7, (("x", -1),))), ("most", (-7, (("x", 1),))))))
        self.assertEqual(told[("p", 1)], ("or", ()))
        self.assertEqual(list(told), [("p", 0), ("p", 1), ("q", 0), ("q", 1)])
        program = laid("hand p\nend")
        self.assertEqual(stretch_remarks(program, {("p", 0): (), ("p", 1): None}),
                         {("p", 0): ("and", ()), ("p", 1): ("or", ())})

    def test_pairs_beyond_the_stretches(self):
        program = laid("box x 0 9 0\nhand p\nend")
        table = {("p", 0): ((-100, 100),), ("p", 1): ((10 ** 40, 10 ** 40 + 1),)}
        told = stretch_remarks(program, table)
        self.assertEqual(told[("p", 0)], ("and", (("most", (-100, (("x", -1),))), ("most", (-100, (("x", 1),))))))
        self.assertEqual(told[("p", 1)][1][0], ("most", (10 ** 40, (("x", -1),))))

    def test_a_stand_fits_a_table(self):
        rng = source_of(320)
        for _ in range(100):
            program = small_program(rng)
            table = {}
            for hand, many in program[1]:
                for place in range(many):
                    pairs = tuple((low - 1, low + rng.randrange(4)) for low in
                                  [rng.randrange(box[2] - 1, box[3] + 1) for box in program[0]])
                    table[(hand, place)] = pairs if rng.random() < 0.8 else None
            before = copy.deepcopy((program, table))
            remarks = stretch_remarks(program, table)
            for stand in all_stands(program):
                wrong = [hand for (hand, many), place in zip(program[1], stand[0])
                         if table[(hand, place)] is None or not within(stand[1], table[(hand, place)])]
                self.assertEqual(fits(program, remarks, stand), wrong)
            remarks.clear()
            self.assertEqual((program, table), before)


class ByHand(unittest.TestCase):
    def test_a_counter(self):
        program = laid("box x 0 5 0\nhand p\nwhile x < 3\nset x = x + 1\nend\nend")
        self.assertEqual(least_stretches(program, 99, MILLION), {
            ("p", 0): ((0, 3),), ("p", 1): ((3, 3),), ("p", 2): ((0, 2),)})

    def test_places_that_nothing_comes_to(self):
        program = laid("box x 0 5 0\nhand p\nwait x >= 6\nwait true\nend\nhand q\nset x = x + 5\nset x = x + 5\nend")
        self.assertEqual(least_stretches(program, 99, MILLION), {
            ("p", 0): ((0, 5),), ("p", 1): None, ("p", 2): None,
            ("q", 0): ((0, 0),), ("q", 1): None, ("q", 2): ((5, 5),)})

    def test_a_step_that_would_leave_a_stretch(self):
        # Of x = 2x only 0, 1 and 2 can be done; of both sets at once only what keeps both.
        program = ([("x", "", 0, 5, 3), ("y", "", 0, 5, 5)], [("p", 3)], [
            ("p", 0, ("and", ()), (("x", (-3, (("y", 1),))), ("y", (0, (("x", 1),)))), 1),
            ("p", 1, ("and", ()), (("x", (0, (("x", 3),))),), 2)], ())
        self.assertEqual(least_stretches(program, 9, MILLION), {
            ("p", 0): ((3, 3), (5, 5)), ("p", 1): ((2, 2), (3, 3)), ("p", 2): None})

    def test_what_is_changed_counts_at_once(self):
        # The second step reads what the first has made in the same round; the other way round it takes one more.
        steps = [("p", 0, ("and", ()), (("x", (1, ())),), 1), ("p", 1, ("and", ()), (("x", (2, ())),), 2)]
        program = ([("x", "", 0, 5, 0)], [("p", 3)], steps, ())
        table = {("p", 0): ((0, 0),), ("p", 1): ((1, 1),), ("p", 2): ((2, 2),)}
        self.assertEqual(least_stretches(program, 1, MILLION), table)
        turned = (program[0], program[1], steps[::-1], ())
        self.assertEqual(least_stretches(turned, 2, MILLION), table)
        with self.assertRaises(TooMany) as caught:
            least_stretches(turned, 1, MILLION)
        self.assertEqual(caught.exception.most, 1)

    def test_other_hands_are_widened_at_once(self):
        # q's place is made wide by p's step ahead of q's own step in the same round.
        steps = [("p", 0, ("and", ()), (("x", (4, ())),), 1), ("q", 0, ("most", (4, (("x", -1),))), (), 1)]
        table = {("p", 0): ((0, 0),), ("p", 1): ((4, 4),), ("q", 0): ((0, 4),), ("q", 1): ((4, 4),)}
        program = ([("x", "", 0, 9, 0)], [("p", 2), ("q", 2)], steps, ())
        self.assertEqual(least_stretches(program, 1, MILLION), table)
        program = ([("x", "", 0, 9, 0)], [("p", 2), ("q", 2)], steps[::-1], ())
        self.assertEqual(least_stretches(program, 2, MILLION), table)
        with self.assertRaises(TooMany):
            least_stretches(program, 1, MILLION)

    def test_rounds_of_none(self):
        self.assertEqual(least_stretches(laid("box x 0 1 0\nhand p\nwait x >= 1\nend"), 0, MILLION),
                         {("p", 0): ((0, 0),), ("p", 1): None})
        with self.assertRaises(TooMany) as caught:
            least_stretches(laid("box x 0 1 0\nhand p\nend"), 0, MILLION)
        self.assertEqual(caught.exception.most, 0)

    def test_no_boxes(self):
        program = laid("hand p\nwait at q l\nend\nhand q\nwait false\nlabel l\nend")
        self.assertEqual(least_stretches(program, 5, MILLION), {
            ("p", 0): (), ("p", 1): (), ("q", 0): (), ("q", 1): None})

    def test_guards_with_rests_and_ats(self):
        program = laid("box x 0 20 0\nhand p\nwhile x < 18\nset x = x + 1\nend\nend\n"
                       "hand q\nown y 0 20 0\nwait 7 divides x and x > 0 and not at p out\nset y = x\nend"
                       .replace("set x = x + 1\nend\nend", "set x = x + 1\nend\nlabel out\nend"))
        self.assertEqual(least_stretches(program, 99, MILLION), Slow(program).rounds()[0])

    def test_many_rounds(self):
        program = laid("box x 0 999 0\nhand p\nwhile x < 300\nset x = x + 1\nend\nend")
        self.assertEqual(least_stretches(program, 301, MILLION)[("p", 1)], ((300, 300),))
        with self.assertRaises(TooMany) as caught:
            least_stretches(program, 300, MILLION)
        self.assertEqual(caught.exception.most, 300)


class Great(unittest.TestCase):
    def test_far_from_nothing(self):
        for far in (10 ** 30 - 9, -10 ** 30):
            low, high = far, far + 9
            program = ([("x", "", low, high, low + 2), ("y", "", -3, 3, 0)], [("p", 2), ("q", 1)], [
                ("p", 0, ("most", (-(low + 6), (("x", 1),))), (("x", (1, (("x", 1),))),), 0),
                ("p", 0, ("rest", (-low, (("x", 1),)), 3), (("y", (-low, (("x", 1),))),), 1),
                ("q", 0, ("and", ()), (("y", (0, (("y", -1),))),), 0)], ())
            table, many = Slow(program).rounds()
            self.assertEqual(least_stretches(program, many, MILLION), table)

    def test_long_stretches(self):
        wide = 10 ** 30
        program = ([("x", "", -wide, wide, 0), ("y", "", -wide, wide, 5)], [("p", 3)], [
            ("p", 0, ("and", ()), (("x", (-3, (("y", 2),))),), 1),
            ("p", 1, ("most", (0, (("x", -1),))), (("y", (wide - 8, (("x", 1),))),), 2),
            ("p", 2, ("and", ()), (("x", (0, (("x", 1), ("y", -1)))), ("y", (0, ()))), 2)], ())
        self.assertEqual(least_stretches(program, 99, MILLION), {
            ("p", 0): ((0, 0), (5, 5)), ("p", 1): ((7, 7), (5, 5)),
            ("p", 2): ((-wide, 7), (0, wide - 1))})

    def test_ends_that_must_be_sought(self):
        # What a guard leaves of a long stretch is no end of a pair: it is found all the same.
        wide = 10 ** 30
        guard = ("and", (("most", (1234567, (("x", -3), ("y", 1)))), ("most", (-7654321, (("x", 2),))),
                         ("rest", (-2, (("x", 1),)), 5)))
        program = ([("x", "", 0, wide, 3), ("y", "", -9, 9, 0), ("z", "", -1, 1, 0)], [("p", 3)], [
            ("p", 0, ("and", ()), (("x", (wide, ())),), 1), ("p", 0, ("and", ()), (("x", (0, ())),), 1),
            ("p", 1, guard, (("y", (0, ())),), 2)], ())
        self.assertEqual(least_stretches(program, 9, MILLION)[("p", 2)][0], (411527, 3827157))

    def test_each_end(self):
        # Every number of a stretch as the least and as the greatest that a guard leaves.
        for low in range(-4, 9):
            for high in range(low, 9):
                guard = ("and", (("most", (low, (("x", -1),))), ("most", (-high, (("x", 1),)))))
                program = ([("x", "", -4, 8, 0)], [("p", 3)], [
                    ("p", 0, ("and", ()), (("x", (-4, ())),), 1), ("p", 0, ("and", ()), (("x", (8, ())),), 1),
                    ("p", 1, guard, (), 2)], ())
                self.assertEqual(least_stretches(program, 9, MILLION)[("p", 2)], ((low, high),))

    def test_each_end_where_other_numbers_are_left_out(self):
        for low in range(-20, 20, 3):
            for divisor in (2, 7, 12):
                guard = ("and", (("most", (low, (("x", -1),))), ("rest", (1, (("x", 1),)), divisor)))
                program = ([("x", "", -20, 40, 0)], [("p", 3)], [
                    ("p", 0, ("and", ()), (("x", (-20, ())),), 1), ("p", 0, ("and", ()), (("x", (40, ())),), 1),
                    ("p", 1, guard, (), 2)], ())
                left = [number for number in range(low, 41) if (number + 1) % divisor == 0]
                self.assertEqual(least_stretches(program, 9, MILLION)[("p", 2)], ((left[0], left[-1]),))

    def test_rows_ahead_of_rounds(self):
        # 1 <= 3x - 3y <= 2 has no short paper, so the maker is refused of the long stretches.
        wide = 10 ** 9
        guard = ("and", (("most", (1, (("x", -3), ("y", 3)))), ("most", (-2, (("x", 3), ("y", -3))))))
        steps = [("p", 0, ("and", ()), (("x", (0, ())), ("y", (0, ()))), 1),
                 ("p", 0, ("and", ()), (("x", (wide, ())), ("y", (wide, ()))), 1), ("p", 1, guard, (), 2)]
        program = ([("x", "", 0, wide, 0), ("y", "", 0, wide, 0)], [("p", 3)], steps, ())
        for rows in (1, 77, MILLION):
            for rounds in (0, 9):
                with self.assertRaises(TooMany) as caught:
                    least_stretches(program, rounds, rows)
                self.assertEqual(caught.exception.most, rows)


class Seeded(unittest.TestCase):
    def test_against_the_words(self):
        rng = source_of(321)
        some = 0
        for _ in range(250):
            program = small_program(rng)
            before = copy.deepcopy(program)
            table, many = Slow(program).rounds()
            told = least_stretches(program, many, MILLION)
            self.assertEqual(told, table)
            self.assertEqual(list(told), list(table))
            self.assertEqual(program, before)
            some += many > 1
            if many > 0:
                with self.assertRaises(TooMany) as caught:
                    least_stretches(program, many - 1, MILLION)
                self.assertEqual(caught.exception.most, many - 1)
            told.clear()
            self.assertEqual(least_stretches(program, many + 1, MILLION), table)
        self.assertGreater(some, 20)

    def test_by_halving_alone(self):
        rng = source_of(322)
        looked = 0
        for _ in range(60):
            program = small_program(rng)
            if many_books(box_rows(program)) <= 1000:
                looked += 1
                with mock.patch.object(seeking, "MOST_LOOKS", 0):
                    self.assertEqual(least_stretches(program, 1000, MILLION), Slow(program).rounds()[0])
        self.assertGreater(looked, 40)

    def test_the_remarks_are_kept(self):
        rng = source_of(323)
        for _ in range(80):
            program = small_program(rng)
            remarks = stretch_remarks(program, least_stretches(program, 1000, MILLION))
            told = court_of(program, remarks, MILLION, 1)
            self.assertEqual(told[0], "shown")
            self.assertTrue(shown_by(program, remarks, told[1]))
            for stand in reached(program, 10 ** 5):
                self.assertEqual(fits(program, remarks, stand), [])

    def test_within_any_kept_ones(self):
        rng = source_of(324)
        kept = 0
        for _ in range(400):
            program = small_program(rng)
            least = least_stretches(program, 1000, MILLION)
            table = {there: self.some_pairs(rng, program, pairs) for there, pairs in least.items()}
            if court_of(program, stretch_remarks(program, table), MILLION, 1)[0] == "shown":
                kept += 1
                for there, pairs in least.items():
                    self.assertTrue(pairs is None or table[there] is not None)
                    if pairs is not None:
                        for one, other in zip(pairs, table[there]):
                            self.assertTrue(other[0] <= one[0] and one[1] <= other[1])
        self.assertGreater(kept, 30)

    def some_pairs(self, rng, program, pairs):
        if rng.random() < 0.7:
            return pairs
        if rng.random() < 0.6:
            return tuple((box[2], box[3]) for box in program[0])
        return tuple((low, low + rng.randrange(3)) for low in [rng.randrange(box[2], box[3] + 1) for box in program[0]])


if __name__ == "__main__":
    unittest.main()
