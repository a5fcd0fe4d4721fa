import copy
import unittest

from calm.parting import parted, straight
from calm.stands import can, done, first_stand, woven
from tests.samples import all_stands, small_program, source_of

TRUE = ("and", ())
HANDS = [("a", 2), ("b", 2), ("c", 2), ("d", 2)]
BOXES = [(name, "", 0, 9, 5) for name in ("x", "y", "z", "w")]


def step(hand, guard=TRUE, **sets):
    """A step of the hand that sets each box to the sum of the boxes named, separated by blanks."""
    told = tuple((box, (0, tuple((other, 1) for other in sorted(named.split())))) for box, named in sorted(sets.items()))
    return (hand, 0, guard, told, 1)


def reads(box):
    return ("most", (0, ((box, 1),)))


class Parted(unittest.TestCase):
    def check(self, told, one, other):
        program = (BOXES, HANDS, [one, other], ())
        self.assertIs(parted(program, 0, 1), told)
        self.assertIs(parted(program, 1, 0), told)

    def test_steps_of_one_hand(self):
        self.check(False, step("a"), step("a"))
        self.check(False, step("a", x="x"), step("a", y="y"))
        program = (BOXES, HANDS, [step("a"), step("b", x="x")], ())
        self.assertIs(parted(program, 0, 0), False)
        self.assertIs(parted(program, 1, 1), False)

    def test_nothing_in_common(self):
        self.check(True, step("a"), step("b"))
        self.check(True, step("a", reads("x"), y="y z"), step("b", reads("x"), w="w x z"))
        self.check(True, step("a", reads("x")), step("b", reads("x")))
        self.check(True, step("a", x="y"), step("b", z="y"))

    def test_one_sets_what_the_other_sets(self):
        self.check(False, step("a", x=""), step("b", x=""))
        self.check(False, step("a", x="", y=""), step("b", y="", z=""))

    def test_one_sets_what_the_other_reads_in_a_sum(self):
        self.check(False, step("a", x=""), step("b", y="x"))
        self.check(False, step("a", y="", z=""), step("b", w="x z"))

    def test_one_sets_what_the_other_reads_in_its_guard(self):
        self.check(False, step("a", x=""), step("b", reads("x")))
        self.check(False, step("a", x=""), step("b", ("or", (TRUE, ("not", ("rest", (0, (("w", 2), ("x", 1))), 2))))))

    def test_places(self):
        self.check(False, step("a"), step("b", ("at", "a", 1)))
        self.check(False, step("a"), step("b", ("not", ("and", (reads("x"), ("at", "a", 7))))))
        self.check(True, step("a"), step("b", ("at", "c", 1)))
        self.check(True, step("a", ("at", "c", 1)), step("b", ("at", "c", 1)))
        self.check(True, step("a", ("at", "a", 1)), step("b", ("at", "b", 1)))
        self.check(False, step("a", ("at", "b", 1)), step("b", ("at", "a", 1)))

    def test_the_law(self):
        rng = source_of(50)
        both = later = 0
        for _ in range(120):
            program = small_program(rng)
            pairs = [(one, other) for one in range(len(program[2])) for other in range(len(program[2]))]
            pairs = [pair for pair in pairs if parted(program, *pair)]
            for stand in all_stands(program) if pairs else []:
                free = can(program, stand)
                for one, other in pairs:
                    if one in free and other in free:
                        both += 1
                        ahead, behind = done(program, stand, one), done(program, stand, other)
                        self.assertIn(other, can(program, ahead))
                        self.assertEqual(done(program, ahead, other), done(program, behind, one))
                    elif one in free:
                        later += 1
                        self.assertNotIn(other, can(program, done(program, stand, one)))
        self.assertGreater(min(both, later), 200)


def by_the_words(program, numbers):
    left, told = list(numbers), []
    while left:
        free = [place for place, number in enumerate(left)
                if all(parted(program, number, ahead) for ahead in left[:place])]
        place = min(free, key=lambda place: (left[place], place))
        told.append(left.pop(place))
    return told


def some_weaving(rng, program, long):
    numbers, stand = [], first_stand(program)
    while can(program, stand) and len(numbers) < long:
        numbers.append(rng.choice(can(program, stand)))
        stand = done(program, stand, numbers[-1])
    return numbers


def with_neighbours_changed(rng, program, numbers):
    told = list(numbers)
    for _ in range(3 * len(told)):
        place = rng.randrange(len(told))
        if place > 0 and parted(program, told[place - 1], told[place]):
            told[place - 1], told[place] = told[place], told[place - 1]
    return told


class Straight(unittest.TestCase):
    def setUp(self):
        # 0 and 4 clash by x, 2 and 3 by their hand, all others are parted.
        self.program = (BOXES, HANDS, [
            step("a", x="x"), step("b", y="y"), step("c", z="z"), step("c", w="w"), step("d", reads("x")),
        ], ())

    def check(self, numbers, told):
        self.assertEqual(straight(self.program, numbers), told)

    def test_the_least_that_can_come_next(self):
        self.check([], [])
        self.check([3], [3])
        self.check([2, 1, 0], [0, 1, 2])
        self.check([4, 0], [4, 0])
        self.check([0, 4], [0, 4])
        self.check([3, 2, 1, 4, 0], [1, 3, 2, 4, 0])
        self.check([4, 3, 0, 2, 1], [1, 3, 2, 4, 0])
        self.check([2, 3, 1, 0, 4, 0], [0, 1, 2, 3, 4, 0])

    def test_like_numbers(self):
        self.check([1, 1, 1], [1, 1, 1])
        self.check([2, 1, 2, 0, 1, 0], [0, 0, 1, 1, 2, 2])
        self.check([3, 2, 3, 2], [3, 2, 3, 2])

    def test_by_the_words(self):
        rng = source_of(51)
        unlike = 0
        for _ in range(150):
            program = small_program(rng)
            numbers = [rng.randrange(len(program[2])) for _ in range(rng.randrange(12))]
            told = straight(program, numbers)
            self.assertEqual(told, by_the_words(program, numbers))
            self.assertEqual(sorted(told), sorted(numbers))
            self.assertEqual(straight(program, told), told)
            unlike += told not in (numbers, sorted(numbers))
        self.assertGreater(unlike, 15)

    def test_parted_neighbours_changed(self):
        rng = source_of(52)
        changed = 0
        for _ in range(100):
            program = small_program(rng)
            numbers = [rng.randrange(len(program[2])) for _ in range(12)]
            other = with_neighbours_changed(rng, program, numbers)
            changed += other != numbers
            self.assertEqual(straight(program, other), straight(program, numbers))
        self.assertGreater(changed, 30)

    def test_weavings_lead_to_the_same_last_stand(self):
        rng = source_of(53)
        changed = 0
        for _ in range(150):
            program = small_program(rng)
            numbers = some_weaving(rng, program, 10)
            last = woven(program, numbers)[-1]
            told = straight(program, numbers)
            changed += told != numbers
            self.assertEqual(woven(program, told)[-1], last)
            if numbers:
                self.assertEqual(woven(program, with_neighbours_changed(rng, program, numbers))[-1], last)
        self.assertGreater(changed, 20)

    def test_long_lists(self):
        numbers = [4, 3, 2, 1] * 1500
        told = straight(self.program, numbers)
        self.assertEqual(told, [1] * 1500 + [3, 2] * 1500 + [4] * 1500)


class Kept(unittest.TestCase):
    def test_what_is_handed_in_stays_and_what_is_told_is_new(self):
        rng = source_of(54)
        program = small_program(rng)
        while len(program[2]) < 5:
            program = small_program(rng)
        numbers = [4, 3, 2, 1, 0, 4, 3]
        kept = copy.deepcopy((program, numbers))
        told = straight(program, numbers)
        first = list(told)
        parted(program, 0, 1)
        self.assertEqual((program, numbers), kept)
        told.clear()
        self.assertEqual(straight(program, numbers), first)
        empty = []
        self.assertIsNot(straight(program, empty), empty)
