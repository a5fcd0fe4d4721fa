import collections
import copy
import unittest
from unittest import mock

from calm import seeking
from calm.court import court_of, shown_by
from calm.duties import duties_of
from calm.errors import TooMany
from calm.laying import lay_out
from calm.listed import finite_answer, listed_remark
from calm.reached import breach, reached
from calm.remarks import holds
from calm.stands import book_of, fits, places_of
from calm.trees import read_program
from tests.samples import all_stands, small_annotation, small_program, source_of

TRUE = ("and", ())


def laid(text):
    return lay_out(read_program(text))


def is_number(box, number):
    return (("most", (-number, ((box, 1),))), ("most", (number, ((box, -1),))))


class Listed(unittest.TestCase):
    def setUp(self):
        self.program = laid("box x 0 9 0\nbox y -9 9 0\nhand p\nend\nhand q\nend\nhand r\nend")[0]

    def test_none_one_more(self):
        stands = [((0, 1, 0), (3, -4)), ((1, 1, 0), (0, 0)), ((0, 0, 1), (5, 6))]
        first = ("and", is_number("x", 3) + is_number("y", -4) + (("at", "q", 1), ("at", "r", 0)))
        third = ("and", is_number("x", 5) + is_number("y", 6) + (("at", "q", 0), ("at", "r", 1)))
        self.assertEqual(listed_remark(self.program, stands, "p", 0), ("or", (first, third)))
        self.assertEqual(listed_remark(self.program, stands[:2], "p", 0), first)
        self.assertEqual(listed_remark(self.program, stands[::-1], "p", 0), ("or", (third, first)))
        self.assertEqual(listed_remark(self.program, stands[1:2], "p", 0), ("or", ()))
        self.assertEqual(listed_remark(self.program, [], "p", 0), ("or", ()))
        self.assertEqual(listed_remark(self.program, stands, "q", 0),
                         ("and", is_number("x", 5) + is_number("y", 6) + (("at", "p", 0), ("at", "r", 1))))
        self.assertEqual(listed_remark(self.program, stands[:1] * 2, "r", 0), ("or", (
            ("and", is_number("x", 3) + is_number("y", -4) + (("at", "p", 0), ("at", "q", 1))),) * 2))

    def test_one_hand_alone_and_no_boxes(self):
        alone = laid("hand p\nend")[0]
        self.assertEqual(listed_remark(alone, [((0,), ())], "p", 0), TRUE)
        self.assertEqual(listed_remark(alone, [((0,), ())], "p", 1), ("or", ()))
        self.assertEqual(listed_remark(alone, [((0,), ())] * 2, "p", 0), ("or", (TRUE, TRUE)))
        box = laid("box x 0 9 4\nhand p\nend")[0]
        self.assertEqual(listed_remark(box, [((1,), (4,))], "p", 1), ("and", is_number("x", 4)))
        # An and of one member comes of one other hand and no boxes.
        two = laid("hand p\nend\nhand q\nend")[0]
        self.assertEqual(listed_remark(two, [((0, 1), ())], "p", 0), ("and", (("at", "q", 1),)))

    def test_it_holds_of_the_stands_alone(self):
        rng = source_of(350)
        for _ in range(60):
            program = small_program(rng)
            stands = all_stands(program)
            some = rng.sample(stands, min(len(stands), rng.randrange(6)))
            before = copy.deepcopy((program, some))
            for spot, (hand, many) in enumerate(program[1]):
                for place in range(many):
                    remark = listed_remark(program, some, hand, place)
                    for stand in stands:
                        if stand[0][spot] == place:
                            told = holds(remark, book_of(program, stand), places_of(program, stand))
                            self.assertEqual(told, stand in some)
            self.assertEqual((program, some), before)


class Finite(unittest.TestCase):
    def shown(self, program, annotation, most):
        answer = finite_answer(program, annotation, most)
        self.assertEqual((answer[0], len(answer)), ("shown", 3))
        stands = reached(program, most)
        self.assertEqual(answer[1], {
            (hand, place): ("and", (listed_remark(program, stands, hand, place), annotation[(hand, place)]))
            for hand, many in program[1] for place in range(many)})
        self.assertEqual([duty for duty, paper in answer[2]], duties_of(program))
        self.assertTrue(shown_by(program, answer[1], answer[2]))
        for stand in stands:
            self.assertEqual(fits(program, answer[1], stand), [])
        return answer

    def test_by_hand(self):
        program, annotation = laid("box x 0 9 0\nhand p\nset x = x + 3\nsay x >= 3\nend")
        answer = self.shown(program, annotation, 2)
        self.assertEqual(answer[1], {
            ("p", 0): ("and", (("and", is_number("x", 0)), TRUE)),
            ("p", 1): ("and", (("and", is_number("x", 3)), ("most", (3, (("x", -1),)))))})
        with self.assertRaises(TooMany) as caught:
            finite_answer(program, annotation, 1)
        self.assertEqual(caught.exception.most, 1)
        self.shown(*laid("hand p\nend"), 2)

    def test_broken(self):
        program, annotation = laid("box x 0 9 0\nhand p\nset x = x + 3\nsay x <= 2\nend\nhand q\nend")
        self.assertEqual(finite_answer(program, annotation, 12), ("broken", [0], "p"))
        self.assertEqual(finite_answer(program, annotation, 2), ("broken", [0], "p"))
        with self.assertRaises(TooMany) as caught:
            finite_answer(program, annotation, 1)
        self.assertEqual(caught.exception.most, 1)
        program, annotation = laid("hand p\nsay false\nwait true\nend")
        self.assertEqual(finite_answer(program, annotation, 1), ("broken", [], "p"))

    def test_what_the_court_finds_not_enough_is_shown(self):
        program, annotation = laid("box x 0 3 0\nbox y 0 1 0\nhand p\nwhile x < 3\nsay x <= 3\nset x = x + 1\n"
                                   "say y <= 0\nwait true\nend\nend")
        self.assertEqual(court_of(program, annotation, 10 ** 6, 100)[0], "not enough")
        answer = self.shown(program, annotation, 12)
        self.assertTrue(shown_by(program, answer[1], court_of(program, answer[1], 10 ** 6, 100)[1]))

    def test_very_long_stretches(self):
        wide = 10 ** 30
        text = ("box x -W W 0\nbox y -W W 7\nbox z -W W -W\nlock l\nhand p\nown m 0 W 0\ntake l\nsay l = 1 and x <= y\n"
                "set x = 3 * y + m , m = m + 1\nsay 3 divides x or x + z >= W0\nend\nhand q\ntake l\n"
                "say l = 2 and [x <= 20 or z <= 0 - 5]\nset z = z + 5 , y = y - x\nsay not [5 divides y + x + 4]\n"
                "give l\nend").replace("W0", "999999999").replace("W", str(wide))
        program, annotation = laid(text)
        self.assertEqual(len(reached(program, 100)), 8)
        self.shown(program, annotation, 12)
        for looks in (0, 1, 3):
            with mock.patch.object(seeking, "MOST_LOOKS", looks):
                self.shown(program, annotation, 12)

    def test_remarks_of_twenty_parts(self):
        rng = source_of(351)
        wide = 10 ** 30
        shown = 0
        for _ in range(150):
            program = small_program(rng)
            boxes = [(name, owner, low - wide, high + wide - 5, start) for name, owner, low, high, start in program[0]]
            program = (boxes,) + program[1:]
            annotation = small_annotation(rng, program, 3)
            try:
                answer = finite_answer(program, annotation, 12)
            except TooMany:
                continue
            if answer[0] == "shown":
                shown += 1
                self.shown(program, annotation, 12)
                with mock.patch.object(seeking, "MOST_LOOKS", rng.randrange(4)):
                    self.shown(program, annotation, 12)
        self.assertGreater(shown, 25)

    def test_seeded(self):
        rng = source_of(352)
        told = collections.Counter()
        for _ in range(200):
            program = small_program(rng)
            annotation = small_annotation(rng, program, rng.randrange(1, 4))
            before = copy.deepcopy((program, annotation))
            most = rng.choice((1, 2, 5, 12))
            try:
                answer = finite_answer(program, annotation, most)
            except TooMany as refusal:
                self.assertEqual(refusal.most, most)
                with self.assertRaises(TooMany):
                    breach(program, annotation, most)
                told["refused"] += 1
                continue
            told[answer[0]] += 1
            if answer[0] == "broken":
                self.assertEqual(answer, ("broken", *breach(program, annotation, most)))
                answer[1].append(0)
                self.assertEqual(finite_answer(program, annotation, most), ("broken", answer[1][:-1], answer[2]))
            else:
                self.assertIsNone(breach(program, annotation, most))
                self.shown(program, annotation, most)
                kept = copy.deepcopy(answer)
                answer[1].clear()
                answer[2].clear()
                self.assertEqual(finite_answer(program, annotation, most), kept)
            self.assertEqual((program, annotation), before)
        self.assertGreater(min(told.values()), 15)
        self.assertEqual(len(told), 3)


if __name__ == "__main__":
    unittest.main()
