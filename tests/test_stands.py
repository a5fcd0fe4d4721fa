import copy
import unittest

from calm.errors import NoStep
from calm.laying import lay_out
from calm.remarks import holds
from calm.stands import can, done, first_stand, fits, woven
from calm.sums import value
from calm.trees import read_program
from tests.samples import all_stands, small_annotation, small_program, source_of

TRUE = ("and", ())
FALSE = ("or", ())
GREAT = 10 ** 30


def most(number, box):
    return ("most", (number, ((box, 1),)))


def program_with(*steps, boxes=(("x", "", 0, 5, 2), ("y", "", -3, 3, -1)), hands=(("a", 4), ("b", 3))):
    return (list(boxes), list(hands), list(steps), ())


def to(box, number, *parts):
    return (box, (number, parts))


class First(unittest.TestCase):
    def test_begins_and_starts(self):
        self.assertEqual(first_stand(program_with()), ((0, 0), (2, -1)))
        self.assertEqual(first_stand(([], [("a", 1)], [], ())), ((0,), ()))

    def test_of_a_text(self):
        program = lay_out(read_program("box x 0 9 4\nlock l\nhand a\nown m 1 2 2\nend\nhand b\nend"))[0]
        self.assertEqual(first_stand(program), ((0, 0), (4, 0, 2)))


class Can(unittest.TestCase):
    def check(self, stand, numbers, *steps):
        program = program_with(*steps)
        self.assertEqual(can(program, stand), numbers)

    def test_where_the_hand_stands(self):
        steps = [("a", 0, TRUE, (), 1), ("b", 0, TRUE, (), 1), ("a", 1, TRUE, (), 0), ("b", 2, TRUE, (), 2)]
        self.check(((0, 0), (2, 0)), [0, 1], *steps)
        self.check(((1, 0), (2, 0)), [1, 2], *steps)
        self.check(((1, 2), (2, 0)), [2, 3], *steps)
        self.check(((2, 1), (2, 0)), [], *steps)

    def test_guards(self):
        steps = [
            ("a", 0, most(-1, "x"), (), 1), ("a", 0, ("not", most(-1, "x")), (), 1), ("a", 0, FALSE, (), 1),
            ("a", 0, ("at", "b", 2), (), 1), ("a", 0, ("at", "a", 0), (), 1),
            ("a", 0, ("rest", (0, (("y", 1),)), 3), (), 1),
        ]
        self.check(((0, 0), (1, 3)), [0, 4, 5], *steps)
        self.check(((0, 2), (2, -1)), [1, 3, 4], *steps)

    def test_ends_of_stretches(self):
        up, down = ("a", 0, TRUE, (to("x", 1, ("x", 1)),), 1), ("a", 0, TRUE, (to("x", -1, ("x", 1)),), 1)
        self.check(((0, 0), (4, 0)), [0, 1], up, down)
        self.check(((0, 0), (5, 0)), [1], up, down)
        self.check(((0, 0), (1, 0)), [0, 1], up, down)
        self.check(((0, 0), (0, 0)), [0], up, down)

    def test_each_sum_must_keep_to_its_stretch(self):
        both = ("a", 0, TRUE, (to("x", 0, ("y", 1)), to("y", 0, ("x", 1))), 1)
        self.check(((0, 0), (3, 3)), [0], both)
        self.check(((0, 0), (4, 3)), [], both)
        self.check(((0, 0), (3, -1)), [], both)
        self.check(((0, 0), (0, 0)), [0], both)

    def test_boxes_that_are_not_set_are_not_asked(self):
        step = ("a", 0, TRUE, (to("x", 1, ("x", 1)),), 1)
        self.check(((0, 0), (4, 99)), [0], step)
        self.check(((0, 0), (5, 99)), [], step)
        self.assertEqual(done(program_with(step), ((0, 0), (4, 99)), 0), ((1, 0), (5, 99)))

    def test_great_ends(self):
        boxes = [("x", "", -GREAT, GREAT, GREAT), ("y", "", -GREAT, GREAT, -GREAT)]
        steps = [
            ("a", 0, TRUE, (to("x", -1, ("x", 1)),), 0), ("a", 0, TRUE, (to("x", 1, ("x", 1)),), 0),
            ("a", 0, TRUE, (to("y", 0, ("x", 1)),), 0), ("a", 0, TRUE, (to("x", 0, ("x", 1), ("y", -1)),), 0),
            ("a", 0, most(-GREAT + 1, "x"), (), 0), ("a", 0, most(-GREAT, "x"), (), 0),
        ]
        program = program_with(*steps, boxes=boxes, hands=[("a", 1)])
        first = first_stand(program)
        self.assertEqual(first, ((0,), (GREAT, -GREAT)))
        self.assertEqual(can(program, first), [0, 2, 5])
        self.assertEqual(done(program, first, 0), ((0,), (GREAT - 1, -GREAT)))
        self.assertEqual(done(program, first, 2), ((0,), (GREAT, GREAT)))

    def test_no_boxes(self):
        program = ([], [("a", 2)], [("a", 0, TRUE, (), 1), ("a", 0, FALSE, (), 0)], ())
        self.assertEqual(can(program, ((0,), ())), [0])
        self.assertEqual(done(program, ((0,), ()), 0), ((1,), ()))

    def test_locks(self):
        text = "lock l\nhand a\ntake l\ngive l\nend\nhand b\ntake l\ngive l\nend"
        program = lay_out(read_program(text))[0]
        self.assertEqual(can(program, ((0, 0), (0,))), [0, 2])
        self.assertEqual(done(program, ((0, 0), (0,)), 2), ((0, 2), (2,)))
        self.assertEqual(can(program, ((0, 2), (2,))), [3])
        self.assertEqual(done(program, ((0, 2), (2,)), 3), ((0, 1), (0,)))


class Done(unittest.TestCase):
    def test_all_sets_at_once(self):
        swap = ("b", 0, TRUE, (to("x", 0, ("y", 1)), to("y", 0, ("x", 1))), 2)
        self.assertEqual(done(program_with(swap), ((3, 0), (1, 2)), 0), ((3, 2), (2, 1)))

    def test_other_boxes_and_hands_stay(self):
        step = ("a", 1, TRUE, (to("y", 1, ("x", 1), ("y", -1)),), 1)
        self.assertEqual(done(program_with(step), ((1, 2), (2, 1)), 0), ((1, 2), (2, 2)))
        self.assertEqual(done(program_with(("a", 1, TRUE, (), 3)), ((1, 2), (2, 1)), 0), ((3, 2), (2, 1)))

    def test_against_the_words(self):
        rng = source_of(30)
        doable = 0
        for _ in range(60):
            program = small_program(rng)
            names = [box[0] for box in program[0]]
            hands = [hand[0] for hand in program[1]]
            for stand in all_stands(program):
                book, places = dict(zip(names, stand[1])), dict(zip(hands, stand[0]))
                wanted = []
                for number, (hand, start, guard, sets, end) in enumerate(program[2]):
                    new = {box: value(one, book) for box, one in sets}
                    fine = all(low <= new.get(box, low) <= high for box, owner, low, high, begin in program[0])
                    if places[hand] == start and holds(guard, book, places) and fine:
                        wanted.append(number)
                        after = {**book, **new}
                        there = tuple(end if name == hand else places[name] for name in hands)
                        told = (there, tuple(after[name] for name in names))
                        self.assertEqual(done(program, stand, number), told)
                self.assertEqual(can(program, stand), wanted)
                doable += len(wanted)
        self.assertGreater(doable, 1000)


class Woven(unittest.TestCase):
    def setUp(self):
        self.program = program_with(
            ("a", 0, TRUE, (to("x", 1, ("x", 1)),), 0), ("a", 0, ("not", most(-4, "x")), (), 1),
            ("b", 0, ("at", "a", 1), (to("x", 0),), 2),
        )

    def refusal_of(self, numbers):
        try:
            return woven(self.program, numbers)
        except NoStep as refused:
            return refused.place

    def test_stands(self):
        first = ((0, 0), (2, -1))
        self.assertEqual(woven(self.program, []), [first])
        self.assertEqual(woven(self.program, [0]), [first, ((0, 0), (3, -1))])
        self.assertEqual(woven(self.program, [0, 0, 0, 1, 2]), [
            first, ((0, 0), (3, -1)), ((0, 0), (4, -1)), ((0, 0), (5, -1)), ((1, 0), (5, -1)), ((1, 2), (0, -1)),
        ])

    def test_refused(self):
        self.assertEqual(self.refusal_of([1]), 0)
        self.assertEqual(self.refusal_of([2, 0]), 0)
        self.assertEqual(self.refusal_of([0, 0, 0, 0]), 3)
        self.assertEqual(self.refusal_of([0, 0, 1]), 2)
        self.assertEqual(self.refusal_of([0, 0, 0, 1, 2, 2, 0]), 5)
        self.assertEqual(self.refusal_of([0, -1]), 1)
        self.assertEqual(self.refusal_of([-3]), 0)
        self.assertEqual(self.refusal_of([0, 3, 17]), 1)
        self.assertEqual(self.refusal_of([0, 10 ** 30]), 1)
        self.assertEqual(self.refusal_of([0, 0, 0, 1, -1]), 4)


class Fits(unittest.TestCase):
    def test_hands_in_order(self):
        program = program_with(hands=[("c", 2), ("a", 2), ("b", 2)])
        annotation = {(hand, place): TRUE for hand in "abc" for place in (0, 1)}
        stand = ((0, 1, 0), (2, -1))
        self.assertEqual(fits(program, annotation, stand), [])
        annotation[("b", 0)] = most(-1, "x")
        self.assertEqual(fits(program, annotation, stand), ["b"])
        annotation[("a", 1)] = ("not", ("at", "c", 0))
        annotation[("c", 0)] = FALSE
        self.assertEqual(fits(program, annotation, stand), ["c", "a", "b"])
        self.assertEqual(fits(program, annotation, ((1, 1, 1), (2, -1))), [])
        self.assertEqual(fits(program, annotation, ((1, 0, 0), (1, -1))), [])
        self.assertEqual(fits(program, annotation, ((0, 0, 0), (1, -1))), ["c"])


class Kept(unittest.TestCase):
    def test_what_is_handed_in_stays(self):
        rng = source_of(31)
        for _ in range(20):
            program = small_program(rng)
            annotation = small_annotation(rng, program)
            numbers = can(program, first_stand(program))[:1]
            kept = copy.deepcopy((program, annotation, numbers))
            stands = woven(program, numbers)
            wrong = fits(program, annotation, stands[-1])
            told = copy.deepcopy((stands, wrong))
            self.assertEqual((program, annotation, numbers), kept)
            stands.clear()
            wrong.append("z")
            can(program, first_stand(program)).append(99)
            self.assertEqual(can(program, first_stand(program))[:1], numbers)
            self.assertEqual(woven(program, numbers), told[0])
            self.assertEqual(fits(program, annotation, told[0][-1]), told[1])
