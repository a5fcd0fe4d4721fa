import copy
import unittest

from calm.errors import TooMany
from calm.laying import lay_out
from calm.reached import breach, reached
from calm.stands import can, done, first_stand, fits, woven
from calm.trees import read_program
from tests.samples import all_stands, small_annotation, small_program, source_of

TRUE = ("and", ())
FALSE = ("or", ())


def up(box, by=1):
    return ((box, (by, ((box, 1),))),)


def counter(high):
    """One hand at one place that counts x from 0 up to high: high + 1 stands."""
    return ([("x", "", 0, high, 0)], [("a", 1)], [("a", 0, TRUE, up("x"), 0)], ())


def at_most(number):
    return ("most", (-number, (("x", 1),)))


def asked(call, *arguments):
    try:
        return call(*arguments)
    except TooMany as refused:
        return ("TooMany", refused.most)


def by_the_words(program):
    """The reached stands as [18] tells them, told another way: a list that is gone through as it grows."""
    stands = [first_stand(program)]
    for stand in stands:
        for number in can(program, stand):
            if done(program, stand, number) not in stands:
                stands.append(done(program, stand, number))
    return stands


class Reached(unittest.TestCase):
    def test_order(self):
        steps = [
            ("a", 1, TRUE, (), 2), ("b", 0, TRUE, (), 1), ("a", 0, TRUE, (), 2), ("a", 0, TRUE, (), 1),
        ]
        program = ([], [("a", 3), ("b", 2)], steps, ())
        places = [(0, 0), (0, 1), (2, 0), (1, 0), (2, 1), (1, 1)]
        self.assertEqual(reached(program, 6), [(place, ()) for place in places])

    def test_as_many_as_most(self):
        self.assertEqual(reached(counter(9), 10), [((0,), (x,)) for x in range(10)])
        self.assertEqual(asked(reached, counter(9), 9), ("TooMany", 9))
        self.assertEqual(asked(reached, counter(9), 11), [((0,), (x,)) for x in range(10)])
        self.assertEqual(asked(reached, counter(0), 1), [((0,), (0,))])
        self.assertEqual(asked(reached, counter(1), 1), ("TooMany", 1))

    def test_many(self):
        self.assertEqual(len(reached(counter(10 ** 5 - 1), 10 ** 5)), 10 ** 5)
        self.assertEqual(asked(reached, counter(10 ** 30), 20000), ("TooMany", 20000))

    def test_a_stand_once(self):
        program = ([], [("a", 2)], [("a", 0, TRUE, (), 0), ("a", 0, TRUE, (), 1), ("a", 1, TRUE, (), 0)], ())
        self.assertEqual(reached(program, 2), [((0,), ()), ((1,), ())])

    def test_no_steps(self):
        self.assertEqual(reached(([], [("a", 2)], [], ()), 1), [((0,), ())])

    def test_many_programs(self):
        rng = source_of(40)
        sizes = set()
        for _ in range(150):
            program = small_program(rng)
            stands = by_the_words(program)
            sizes.add(len(stands))
            self.assertEqual(reached(program, 10 ** 5), stands)
            self.assertEqual(reached(program, len(stands)), stands)
            if len(stands) > 1:
                self.assertEqual(asked(reached, program, len(stands) - 1), ("TooMany", len(stands) - 1))
        self.assertGreater(len(sizes), 10)


def shortest_break(program, annotation):
    """How long the shortest weaving is that breaks a remark, found by distances alone; None where there is none."""
    first = first_stand(program)
    layer, seen, far = {first}, {first}, 0
    while layer:
        if any(fits(program, annotation, stand) for stand in layer):
            return far
        layer = {done(program, stand, number) for stand in layer for number in can(program, stand)} - seen
        seen |= layer
        far += 1
    return None


class Breach(unittest.TestCase):
    def test_a_shortest_weaving(self):
        steps = [("a", 0, TRUE, up("x"), 0), ("a", 0, TRUE, up("x", 2), 0), ("b", 0, TRUE, up("x", 3), 1)]
        program = ([("x", "", 0, 9, 0)], [("a", 1), ("b", 2)], steps, ())
        annotation = {("a", 0): at_most(5), ("b", 0): TRUE, ("b", 1): TRUE}
        weaving, hand = breach(program, annotation, 100)
        self.assertEqual((len(weaving), hand), (3, "a"))
        self.assertGreater(woven(program, weaving)[-1][1][0], 5)
        annotation[("b", 1)] = FALSE
        self.assertEqual(breach(program, annotation, 100), ([2], "b"))

    def test_the_first_stand_too(self):
        annotation = {("a", 0): FALSE}
        self.assertEqual(breach(counter(9), annotation, 100), ([], "a"))
        self.assertEqual(breach(counter(9), annotation, 1), ([], "a"))

    def test_the_first_hand(self):
        program = ([("x", "", 0, 1, 0)], [("c", 1), ("a", 1), ("b", 1)], [("b", 0, TRUE, up("x"), 0)], ())
        annotation = {("c", 0): TRUE, ("a", 0): at_most(0), ("b", 0): at_most(0)}
        self.assertEqual(breach(program, annotation, 5), ([0], "a"))
        annotation[("c", 0)] = ("not", ("not", at_most(0)))
        self.assertEqual(breach(program, annotation, 5), ([0], "c"))

    def test_none(self):
        self.assertIsNone(breach(counter(9), {("a", 0): at_most(9)}, 10))
        self.assertIsNone(breach(counter(9), {("a", 0): TRUE}, 1000))

    def test_among_the_first_most_alone(self):
        for bound in range(1, 12):
            told = ([0] * 7, "a") if bound >= 8 else ("TooMany", bound)
            self.assertEqual(asked(breach, counter(9), {("a", 0): at_most(6)}, bound), told)
        self.assertEqual(asked(breach, counter(9), {("a", 0): TRUE}, 9), ("TooMany", 9))
        self.assertEqual(asked(breach, counter(9), {("a", 0): at_most(9)}, 9), ("TooMany", 9))
        self.assertEqual(asked(breach, counter(9), {("a", 0): at_most(8)}, 9), ("TooMany", 9))
        self.assertEqual(asked(breach, counter(10 ** 30), {("a", 0): at_most(6)}, 8), ([0] * 7, "a"))

    def test_two_hands_without_a_lock(self):
        text = ("box x 0 9 0\nhand a\nown m 0 9 0\nset m = x\nset x = m + 1\nlabel last\nend\n"
                "hand b\nown n 0 9 0\nset n = x\nset x = n + 1\nlabel last\nsay not at a last or x >= 2\nend")
        program, annotation = lay_out(read_program(text))
        weaving, hand = breach(program, annotation, 1000)
        self.assertEqual((len(weaving), hand), (4, "b"))
        self.assertEqual(fits(program, annotation, woven(program, weaving)[-1]), ["b"])

    def test_many_programs(self):
        rng = source_of(41)
        told = {"none": 0, "first": 0, "later": 0}
        for _ in range(250):
            program = small_program(rng)
            annotation = small_annotation(rng, program)
            stands = by_the_words(program)
            far = shortest_break(program, annotation)
            found = breach(program, annotation, 10 ** 5)
            told["none" if far is None else "first" if far == 0 else "later"] += 1
            if far is None:
                self.assertIsNone(found)
                self.assertIsNone(breach(program, annotation, len(stands)))
                continue
            weaving, hand = found
            last = woven(program, weaving)[-1]
            self.assertEqual((len(weaving), hand), (far, fits(program, annotation, last)[0]))
            bad = [place for place, stand in enumerate(stands) if fits(program, annotation, stand)]
            self.assertEqual(breach(program, annotation, bad[0] + 1), found)
            if bad[0] > 0:
                self.assertEqual(asked(breach, program, annotation, bad[0]), ("TooMany", bad[0]))
        self.assertGreater(min(told.values()), 20)


class Kept(unittest.TestCase):
    def test_what_is_handed_in_stays_and_what_is_told_is_new(self):
        rng = source_of(42)
        for _ in range(30):
            program = small_program(rng)
            annotation = small_annotation(rng, program)
            kept = copy.deepcopy((program, annotation))
            stands, found = reached(program, 10 ** 5), breach(program, annotation, 10 ** 5)
            told = copy.deepcopy((stands, found))
            self.assertEqual((program, annotation), kept)
            self.assertLessEqual(set(stands), set(all_stands(program)))
            stands.clear()
            if found is not None:
                found[0].append(99)
            self.assertEqual((reached(program, 10 ** 5), breach(program, annotation, 10 ** 5)), told)
