import collections
import copy
import unittest
from unittest import mock

from calm import seeking
from calm.checker import let_by
from calm.court import court_of, shown_by
from calm.duties import box_rows, duties_of, duty_forms
from calm.errors import TooMany
from calm.forms import form_parts, form_true
from calm.laying import lay_out
from calm.reached import breach, reached
from calm.stands import fits, woven
from calm.trees import read_program
from tests.samples import all_stands, many_books, small_annotation, small_program, source_of

MILLION = 10 ** 6
TRUE = ("and", ())

# Two hands that take a lock: what is said where it is held is kept.
LOCKED = """box x 0 4 0
lock l
hand p
while true
take l
label got
say l = 1 and [x <= 4 or at q got]
set x = 4 - x
say l = 1
give l
end
end
hand q
take l
label got
say l = 2
wait x >= 0
say l = 2 and [not at p got or x <= 4]
give l
end"""

# x is 2 behind two steps; the remark at the end is broken by both hands' steps, and by nothing shorter.
COUNTED = """box x 0 9 0
hand p
set x = x + 1
say x <= 1
end
hand q
set x = x + 1
end"""

# y never is 1, but what is said at the loop doesn't tell it.
WEAK = """box x 0 3 0
box y 0 1 0
hand p
while x < 3
say x <= 3
set x = x + 1 , y = y
say y <= 0
wait true
end
end"""

# The same 1 <= 3x - 3y <= 2 as a remark against which no short paper is: the maker is refused of it.
HARD = """box x 0 100000 0
box y 0 100000 0
hand p
while true
say true
either
set x = x + 1
or
set y = y + 1
end
say 3 * x - 3 * y <= 0 or 3 * x - 3 * y >= 3
wait true
end
end"""


def laid(text):
    return lay_out(read_program(text))


def stand_book(program, stand):
    book = {"@" + hand: place for (hand, many), place in zip(program[1], stand[0])}
    book.update({box[0]: number for box, number in zip(program[0], stand[1])})
    return book


class Shown(unittest.TestCase):
    def setUp(self):
        self.program, self.annotation = laid(LOCKED)
        answer = court_of(self.program, self.annotation, MILLION, 100)
        self.assertEqual(answer[0], "shown")
        self.papers = answer[1]

    def told(self, papers):
        return shown_by(self.program, self.annotation, papers)

    def test_the_courts_papers(self):
        self.assertIs(self.told(self.papers), True)
        self.assertEqual([duty for duty, paper in self.papers], duties_of(self.program))
        rows = box_rows(self.program)
        for duty, paper in self.papers:
            self.assertTrue(let_by(rows, duty_forms(self.program, self.annotation, duty), paper))

    def test_missing_more_changed_about(self):
        papers = self.papers
        self.assertIs(self.told(papers[1:]), False)
        self.assertIs(self.told(papers[:-1]), False)
        self.assertIs(self.told(papers[:5] + papers[6:]), False)
        self.assertIs(self.told(papers + papers[-1:]), False)
        self.assertIs(self.told(papers[:1] + papers), False)
        self.assertIs(self.told([]), False)
        for place in range(len(papers) - 1):
            turned = papers[:place] + [papers[place + 1], papers[place]] + papers[place + 2:]
            self.assertIs(self.told(turned), False, place)

    def test_papers_of_other_duties(self):
        wrong = 0
        for place, (duty, paper) in enumerate(self.papers):
            other = self.papers[(place + 7) % len(self.papers)][1]
            right = let_by(box_rows(self.program), duty_forms(self.program, self.annotation, duty), other)
            self.assertIs(self.told(self.papers[:place] + [(duty, other)] + self.papers[place + 1:]), right)
            wrong += not right
        self.assertGreater(wrong, 5)

    def test_papers_of_another_annotation(self):
        other = dict(self.annotation)
        other[("q", 1)] = ("most", (-3, (("x", 1),)))
        self.assertIs(shown_by(self.program, other, self.papers), False)
        self.assertIs(shown_by(self.program, self.annotation, court_of(self.program, {
            there: TRUE for there in self.annotation}, MILLION, 10)[1]), False)

    def test_truths_for_numbers(self):
        for place, (duty, paper) in enumerate(self.papers):
            for spot, part in enumerate(duty):
                if isinstance(part, int):
                    for odd in ([bool(part)] if part in (0, 1) else []) + [float(part), str(part)]:
                        bent = duty[:spot] + (odd,) + duty[spot + 1:]
                        pairs = self.papers[:place] + [(bent, paper)] + self.papers[place + 1:]
                        self.assertIs(self.told(pairs), False, bent)

    def test_anything_for_papers(self):
        for odd in (None, 0, 1, True, "shown", "", (), tuple(self.papers), {}, {0: self.papers}, set(), object(),
                    iter(self.papers), dict(self.papers), [self.papers], b"", 1.5, self.papers[0], len, Exception()):
            self.assertIs(self.told(odd), False, odd)

    def test_anything_for_a_pair(self):
        duty, paper = self.papers[3]
        for odd in (None, 0, True, "ab", (), (duty,), (duty, paper, paper), [duty, paper], {duty: paper}, (paper, duty),
                    duty, paper, (duty, (paper,)), object(), {duty, paper}):
            self.assertIs(self.told(self.papers[:3] + [odd] + self.papers[4:]), False, odd)

    def test_anything_for_a_duty(self):
        for place in (0, 2, -1):
            duty, paper = self.papers[place]
            rest = list(self.papers)
            for odd in (None, 0, False, "start", (), list(duty), duty + (0,), duty[:-1], (duty,), {duty}, object(),
                        ("start",), ("own", -1), ("Own",) + duty[1:], tuple([[part] for part in duty]),
                        (duty[0], None) + duty[2:], tuple(reversed(duty))):
                rest[place] = (odd, paper)
                self.assertIs(self.told(rest), False, odd)

    def test_anything_for_a_paper(self):
        for place in (0, 4, -1):
            duty, paper = self.papers[place]
            rest = list(self.papers)
            for odd in (None, 0, True, "sum", (), [], list(paper), paper + (0,), paper[:-1], (paper,), object(), {},
                        ("sum", ()), ("or", 0, []), [paper]):
                rest[place] = (duty, odd)
                self.assertIs(self.told(rest), False, odd)

    def test_nothing_is_changed(self):
        before = copy.deepcopy((self.program, self.annotation, self.papers))
        self.told(self.papers)
        self.told(self.papers[1:])
        self.assertEqual((self.program, self.annotation, self.papers), before)


class Court(unittest.TestCase):
    def test_shown(self):
        program, annotation = laid("hand p\nend")
        self.assertEqual(court_of(program, annotation, 6, 1)[0], "shown")
        # Whatever is reached, what is shown is not looked for.
        with mock.patch("calm.court.breach", side_effect=AssertionError):
            self.assertEqual(court_of(program, annotation, 6, 1)[0], "shown")

    def test_broken(self):
        program, annotation = laid(COUNTED)
        self.assertEqual(court_of(program, annotation, MILLION, 100), ("broken", [0, 1], "p"))
        self.assertEqual(breach(program, annotation, 100), ([0, 1], "p"))
        program, annotation = laid("box x 0 1 1\nhand p\nsay true\nwait true\nend\nhand q\nsay x <= 0\nwait true\nend")
        self.assertEqual(court_of(program, annotation, MILLION, 1), ("broken", [], "q"))

    def test_a_breach_beyond_most(self):
        program, annotation = laid(COUNTED)
        many = len(reached(program, 100))
        told = court_of(program, annotation, MILLION, many)
        self.assertEqual(told[0], "broken")
        short = court_of(program, annotation, MILLION, 2)
        self.assertEqual((short[0], short[3]), ("not enough", False))

    def test_not_enough(self):
        program, annotation = laid(WEAK)
        many = len(reached(program, 1000))
        for most, seen in ((many, True), (many + 1, True), (many - 1, False), (1, False), (1000, True)):
            told = court_of(program, annotation, MILLION, most)
            self.assertEqual(told[0], "not enough")
            self.assertEqual(len(told), 4)
            self.assertIs(told[3], seen, most)
            self.fails(program, annotation, told)

    def fails(self, program, annotation, told):
        duty, stand = told[1], told[2]
        self.assertIn(duty, duties_of(program))
        self.assertIsInstance(stand, tuple)
        book = stand_book(program, stand)
        for form in duty_forms(program, annotation, duty):
            self.assertTrue(form_true(form, book))
        for (hand, many), place in zip(program[1], stand[0]):
            self.assertTrue(0 <= place < many)
        for box, number in zip(program[0], stand[1]):
            self.assertTrue(box[2] <= number <= box[3])

    def test_the_first_duty_that_fails(self):
        program, annotation = laid(WEAK)
        duty = court_of(program, annotation, MILLION, 100)[1]
        stands = all_stands(program)
        for other in duties_of(program)[:duties_of(program).index(duty)]:
            forms = duty_forms(program, annotation, other)
            self.assertFalse(any(all(form_true(form, stand_book(program, stand)) for form in forms)
                                 for stand in stands), other)

    def test_refused_by_rows(self):
        program, annotation = laid(HARD)
        for rows in (1, 1000, MILLION):
            with self.assertRaises(TooMany) as caught:
                court_of(program, annotation, rows, 30)
            self.assertEqual(caught.exception.most, rows)

    def test_a_breach_though_the_maker_is_refused(self):
        text = HARD.replace("say 3 * x", "say x + y <= 1 and [3 * x", 1).replace(">= 3\nwait", ">= 3]\nwait")
        program, annotation = laid(text)
        with mock.patch("calm.court.answer_of", side_effect=TooMany(7)):
            told = court_of(program, annotation, 7, 100)
            self.assertEqual(told[0], "broken")
            self.assertEqual((told[1], told[2]), breach(program, annotation, 100))
            with self.assertRaises(TooMany) as caught:
                court_of(program, annotation, 7, 3)
            self.assertEqual(caught.exception.most, 7)

    def test_most_and_rows_are_not_confused(self):
        program, annotation = laid(HARD)
        with self.assertRaises(TooMany) as caught:
            court_of(program, annotation, 12345, 50)
        self.assertEqual(caught.exception.most, 12345)

    def test_never_refused_within_the_bound(self):
        rng = source_of(310)
        for _ in range(40):
            program = small_program(rng)
            annotation = small_annotation(rng, program)
            most = max(sum(form_parts(form) for form in duty_forms(program, annotation, duty)) + 2
                       for duty in duties_of(program)) * many_books(box_rows(program))
            with mock.patch.object(seeking, "MOST_LOOKS", 2):
                self.assertIn(court_of(program, annotation, most, 10 ** 4)[0], ("shown", "broken", "not enough"))

    def test_seeded(self):
        rng = source_of(311)
        told = collections.Counter()
        for _ in range(250):
            program = small_program(rng)
            annotation = small_annotation(rng, program, rng.randrange(1, 4))
            before = copy.deepcopy((program, annotation))
            answer = court_of(program, annotation, MILLION, 1000)
            self.assertEqual((program, annotation), before)
            told[answer[0]] += 1
            stands = reached(program, 10 ** 5)
            calm = not any(fits(program, annotation, stand) for stand in stands)
            if answer[0] == "shown":
                self.assertTrue(calm)
                self.assertTrue(shown_by(program, annotation, answer[1]))
            elif answer[0] == "broken":
                self.assertEqual((answer[1], answer[2]), breach(program, annotation, 1000))
                self.assertEqual(fits(program, annotation, woven(program, answer[1])[-1])[0], answer[2])
            else:
                self.assertTrue(calm)
                self.assertIs(answer[3], len(stands) <= 1000)
                self.fails(program, annotation, answer)
        self.assertGreater(told["shown"], 50)
        self.assertGreater(told["broken"], 50)
        self.assertGreater(told["not enough"], 3)

    def test_told_anew(self):
        for text in (COUNTED, WEAK, "hand p\nend"):
            program, annotation = laid(text)
            first = court_of(program, annotation, MILLION, 100)
            kept = copy.deepcopy(first)
            if isinstance(first[1], list):
                first[1].clear()
            self.assertEqual(court_of(program, annotation, MILLION, 100), kept)


if __name__ == "__main__":
    unittest.main()
