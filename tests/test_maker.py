import collections
import copy
import unittest

from calm.checker import let_by
from calm.duties import box_rows, duties_of, duty_forms
from calm.errors import TooMany
from calm.forms import against_form, form_parts, plain_form
from calm.laying import lay_out
from calm.maker import answer_of
from calm.remarks import behind, holds
from calm.trees import read_program
from tests.papers import deep_of, has_book, is_right, numbers_in
from tests.samples import (
    many_books, small_annotation, small_program, small_remark, some_form, some_stretches, source_of, zero_form,
)

TRUE = ("and", ())
FALSE = ("or", ())
MILLION = 10 ** 6
NAMES = ["x", "y", "a1", "@h", "@left"]


def most(number, *parts):
    return ("most", (number, parts))


def rest(divisor, number, *parts):
    return ("rest", (number, parts), divisor)


def bound_of(rows, forms):
    return many_books(rows) * (sum(form_parts(form) for form in forms) + 2)


# Of no whole number is it true that 1 <= 3x - 3y <= 2, and neither a sum nor a rest shows it.
def thirds(width):
    rows = [("x", 0, width - 1), ("y", 0, width - 1)]
    return rows, [most(1, ("x", -3), ("y", 3)), most(-2, ("x", 3), ("y", -3))]


class Case(unittest.TestCase):
    def right(self, rows, forms, limit=MILLION):
        answer = answer_of(rows, forms, limit)
        self.assertTrue(is_right(rows, forms, answer), (rows, forms, answer))
        return answer[0]

    def as_it_is(self, rows, forms, limit=None):
        told = self.right(rows, forms, bound_of(rows, forms) if limit is None else limit)
        self.assertEqual(told == "book", has_book(rows, forms), (rows, forms))
        return told


class ByHand(Case):
    def test_nothing_at_all(self):
        self.assertEqual(answer_of([], [], 2), ("book", {}))
        self.assertEqual(answer_of([("x", 4, 4), ("@h", 1, 1)], [], 2), ("book", {"x": 4, "@h": 1}))
        self.assertEqual(answer_of([], [FALSE], 3), ("paper", ("or", 0, ())))
        self.assertEqual(answer_of([], [TRUE], 3), ("book", {}))
        self.assertEqual(self.as_it_is([], [most(1)]), "paper")
        self.assertEqual(self.as_it_is([], [most(0), rest(2, 4)]), "book")
        self.assertEqual(self.as_it_is([], [rest(7, 1)]), "paper")

    def test_atoms(self):
        rows = [("x", 0, 5), ("y", -2, 2)]
        for forms, told in (
            ([most(5, ("x", -1))], "book"), ([most(6, ("x", -1))], "paper"), ([most(1, ("x", 1))], "paper"),
            ([most(7, ("x", -1), ("y", -1))], "book"), ([most(8, ("x", -1), ("y", -1))], "paper"),
            ([most(5, ("x", -2)), most(-5, ("x", 2))], "paper"), ([most(4, ("x", -2)), most(-4, ("x", 2))], "book"),
            ([rest(6, 0, ("x", 1)), most(1, ("x", -1))], "paper"), ([rest(5, 0, ("x", 1)), most(1, ("x", -1))], "book"),
            ([rest(4, 1, ("x", 2))], "paper"), ([rest(3, 1, ("x", 2))], "book"),
            ([rest(2, 0, ("x", 1), ("y", 1)), rest(2, 1, ("x", 1), ("y", -1))], "paper"),
        ):
            self.assertEqual(self.as_it_is(rows, forms), told, forms)

    def test_ands_and_ors(self):
        rows = [("x", 0, 5)]
        low, high, middle = most(-1, ("x", 1)), most(4, ("x", -1)), ("and", (most(2, ("x", -1)), most(-3, ("x", 1))))
        for forms, told in (
            ([("or", (low, high)), middle], "paper"), ([("or", (low, high, middle)), middle], "book"),
            ([("or", (low,)), ("or", (("or", (high, middle)),))], "paper"),
            ([("and", (("or", (low, middle)), ("or", (high, middle)))), ("or", (low, high))], "paper"),
            ([("and", (("or", (low, middle)), ("or", (high, middle)))), most(3, ("x", -1))], "book"),
            ([("or", (FALSE, ("and", (low, FALSE))))], "paper"), ([("or", (FALSE, TRUE))], "book"),
        ):
            self.assertEqual(self.as_it_is(rows, forms), told, forms)

    def test_names_of_places(self):
        rows = [("@h", 3, 4), ("h", 0, 1)]
        self.assertEqual(answer_of(rows, [("and", (most(-3, ("@h", 1)), most(1, ("h", -1))))], MILLION),
                         ("book", {"@h": 3, "h": 1}))
        self.assertEqual(self.as_it_is(rows, [most(-2, ("@h", 1))]), "paper")
        self.assertEqual(self.as_it_is(rows, [most(0, ("@h", 1), ("h", -3))]), "book")
        self.assertEqual(self.as_it_is(rows, [most(1, ("@h", 1), ("h", -3))]), "paper")


class Seeded(Case):
    def test_against_all_books(self):
        rng = source_of(290)
        told = collections.Counter()
        for _ in range(1500):
            rows = some_stretches(rng, NAMES)
            boxes = [row[0] for row in rows]
            greatest = rng.choice((1, 2, 5, 20))
            forms = [some_form(rng, rng.randrange(4), boxes, greatest) for _ in range(rng.randrange(5))]
            if rng.random() < 0.3:
                one = some_form(rng, 0, boxes, greatest)[1]
                forms.insert(rng.randrange(len(forms) + 1), zero_form(one))
            told[self.as_it_is(rows, forms)] += 1
        self.assertGreater(min(told["book"], told["paper"]), 300)

    def test_forms_of_remarks(self):
        rng = source_of(291)
        told = collections.Counter()
        for _ in range(600):
            rows = [("x", -2, 1), ("y", 0, 3), ("@h", 0, 2)]
            forms = []
            for _ in range(rng.randrange(1, 5)):
                remark = small_remark(rng, rng.randrange(4), ["x", "y"], [("h", 3)])
                forms.append((plain_form if rng.random() < 0.7 else against_form)(remark))
            told[self.as_it_is(rows, forms)] += 1
        self.assertGreater(min(told["book"], told["paper"]), 150)

    def test_each_divisor(self):
        for divisor in range(2, 13):
            rows = [("x", 0, divisor - 2), ("y", 0, 3)]
            self.assertEqual(self.as_it_is(rows, [rest(divisor, 1, ("x", 1))]), "paper")
            self.assertEqual(self.as_it_is(rows, [rest(divisor, 1, ("x", 1), ("y", 1))]), "book")
            against = against_form(rest(divisor, 0, ("x", 1)))
            self.assertEqual(self.as_it_is(rows, [against, most(0, ("x", 1))]), "paper")
            self.assertEqual(self.as_it_is(rows, [against, rest(divisor, 0, ("x", 1))]), "paper")

    def test_rows_in_any_order(self):
        rng = source_of(292)
        for _ in range(200):
            rows = [(name, -1, 2) for name in NAMES[:4]]
            forms = [some_form(rng, 2, NAMES[:4], 3) for _ in range(4)]
            first = self.as_it_is(rows, forms)
            rng.shuffle(rows)
            self.assertEqual(self.as_it_is(rows, forms), first)


class Bound(Case):
    def right_or_refused(self, rows, forms, limit):
        try:
            return self.as_it_is(rows, forms, limit)
        except TooMany as refusal:
            self.assertEqual(refusal.most, limit)
            return "refused"

    def test_at_the_bound_and_one_below(self):
        rng = source_of(293)
        for _ in range(300):
            rows = some_stretches(rng, NAMES[:3])
            forms = [some_form(rng, 2, [row[0] for row in rows], 4) for _ in range(3)]
            bound = bound_of(rows, forms)
            self.as_it_is(rows, forms, bound)
            self.as_it_is(rows, forms, bound + 1)
            self.right_or_refused(rows, forms, bound - 1)
            self.right_or_refused(rows, forms, 1)

    def test_what_has_no_short_paper(self):
        for width in (2, 3, 40, 120):
            rows, forms = thirds(width)
            self.assertEqual(self.right(rows, forms, 4 * width * width), "paper")
            self.assertIn(self.right_or_refused(rows, forms, 4 * width * width - 1), ("paper", "refused"))

    def test_no_paper_is_too_deep(self):
        # Sought by points, these get deeper with the width, till they are too deep.
        deepest = 0
        for width in range(20, 110):
            rows, forms = thirds(width)
            answer = answer_of(rows, forms, 4 * width * width)
            self.assertTrue(is_right(rows, forms, answer), width)
            deepest = max(deepest, deep_of(answer[1]))
        self.assertGreaterEqual(deepest, 89)

    def test_what_has_no_short_paper_at_a_million(self):
        rows, forms = thirds(500)
        self.assertEqual(bound_of(rows, forms), MILLION)
        self.assertEqual(self.right(rows, forms, MILLION), "paper")

    def test_it_is_refused_with_most(self):
        rows, forms = thirds(10 ** 20)
        for limit in (1, 17, MILLION):
            with self.assertRaises(TooMany) as caught:
                answer_of(rows, forms, limit)
            self.assertEqual(caught.exception.most, limit)

    def test_a_book_among_very_many(self):
        # Of seventeen numbers some come to the one asked for; a whole look has more than a hundred thousand books.
        names = ["b%d" % number for number in range(17)]
        rows = [(name, 0, 1) for name in names]
        times = [3 ** 16 + number * number * 7919 + number for number in range(17)]
        parts = tuple(sorted(zip(names, times)))
        wanted = sum(times[2:15:2])
        forms = [zero_form((-wanted, parts))]
        self.assertEqual(self.right(rows, forms, bound_of(rows, forms)), "book")
        self.assertEqual(self.right(rows, [zero_form((1 - wanted * 2, tuple((box, 2 * many) for box, many in parts)))],
                                    bound_of(rows, forms)), "paper")

    def test_most_of_one(self):
        self.assertIn(self.right_or_refused([("x", 0, 9)], [most(3, ("x", -1))], 1), ("book", "refused"))
        self.assertIn(self.right_or_refused([("x", 0, 9)], [most(10, ("x", -1))], 1), ("paper", "refused"))
        self.assertIn(self.right_or_refused([], [], 1), ("book", "refused"))

    def test_many_boxes_of_three(self):
        # Halves of stretches of three go deepest; the rests leave nothing to be seen early.
        names = ["c%02d" % number for number in range(8)]
        rows = [(name, -1, 1) for name in names]
        parts = tuple((name, 1) for name in names)
        forms = [("rest", (0, parts), 9), most(1, *[(name, -1) for name in names])]
        self.assertEqual(self.right(rows, forms, bound_of(rows, forms)), "paper")

    def test_forty_deep(self):
        for kinds in (("or",), ("or", "and"), ("and",), ("and", "or", "or")):
            for atom, other, told in (
                (most(4, ("x", -1)), most(1), "paper"), (most(3, ("x", -1)), most(1), "book"),
                (rest(5, 1, ("x", 1)), most(1), "paper"), (rest(4, 1, ("x", 1)), rest(2, 1), "book"),
            ):
                form = atom
                for number in range(39):
                    kind = kinds[number % len(kinds)]
                    form = (kind, (form, other)) if kind == "or" and number % 2 else (kind, (form,))
                self.assertEqual(self.as_it_is([("x", 0, 3)], [form]), told)
                self.assertEqual(self.as_it_is([("x", 0, 3)], [TRUE, form, form]), told)

    def test_forty_deep_and_very_many_books(self):
        rows, forms = thirds(60)
        form = ("and", tuple(forms))
        for _ in range(38):
            form = ("or", (form, FALSE))
        self.assertEqual(self.right(rows, [form], bound_of(rows, [form])), "paper")


class Great(Case):
    def test_far_from_nothing(self):
        rng = source_of(294)
        told = collections.Counter()
        for _ in range(300):
            far = rng.choice((10 ** 40, -10 ** 40, 10 ** 30 - 5))
            rows = [("x", far - 1, far + 2), ("y", -3, 0), ("@h", far, far + 1)]
            parts = tuple((box, rng.choice((-2, -1, 1, 3))) for box in ("@h", "x", "y"))
            about = sum(times * far for box, times in parts if box != "y")
            forms = [("most", (rng.randrange(-3, 4) - about, parts)), ("rest", (rng.randrange(9), parts), 7),
                     ("or", (most(-far, ("x", 1)), most(far + 2, ("x", -1))))]
            told[self.as_it_is(rows, forms)] += 1
        self.assertGreater(min(told["book"], told["paper"]), 50)

    def test_very_long_stretches(self):
        rng = source_of(295)
        told = collections.Counter()
        for _ in range(500):
            rows = [(name, -rng.randrange(10 ** 40), rng.randrange(10 ** 40)) for name in NAMES[:rng.randrange(1, 5)]]
            boxes = [row[0] for row in rows]
            forms = []
            for _ in range(rng.randrange(1, 6)):
                form = some_form(rng, rng.randrange(3), boxes, rng.choice((3, 3, 10 ** 4)))
                forms.append(form)
            limit = rng.choice((1, 1000, MILLION))
            try:
                told[self.right(rows, forms, limit)] += 1
            except TooMany as refusal:
                self.assertEqual(refusal.most, limit)
                told["refused"] += 1
        self.assertGreater(min(told["book"], told["paper"]), 100)

    def test_greatest_numbers_and_times(self):
        rng = source_of(296)
        told = collections.Counter()
        for _ in range(300):
            rows = [("x", -10 ** 30, 10 ** 30), ("y", 10 ** 30 - 3, 10 ** 30), ("@h", 5, 9)]
            forms = []
            for _ in range(rng.randrange(1, 5)):
                parts = [(box, rng.choice((1, -1)) * rng.randrange(1, 10 ** 10)) for box in ("@h", "x", "y")]
                one = (rng.choice((1, -1)) * rng.randrange(10 ** 41), tuple(rng.sample(parts, 2)))
                one = (one[0], tuple(sorted(one[1])))
                forms.append(rng.choice((("most", one), ("rest", one, rng.randrange(2, 13)), zero_form(one))))
            try:
                answer = answer_of(rows, forms, MILLION)
                self.assertTrue(is_right(rows, forms, answer))
                told[answer[0]] += 1
                if answer[0] == "paper":
                    self.assertLess(max(map(abs, numbers_in(answer[1]))), 10 ** 60)
            except TooMany:
                told["refused"] += 1
        self.assertGreater(min(told["book"], told["paper"]), 30)

    def test_sums_that_come_round(self):
        wide = 10 ** 30
        rows = [("x", -wide, wide), ("y", -wide, wide), ("z", -wide, wide)]
        round_about = [most(0, ("x", 1), ("y", -1)), most(0, ("y", 1), ("z", -1)), most(0, ("x", -1), ("z", 1))]
        self.assertEqual(self.right(rows, round_about), "book")
        self.assertEqual(self.right(rows, round_about[:2] + [most(1, ("x", -1), ("z", 1))]), "paper")
        odd = [zero_form((-1, (("x", 2), ("y", -4), ("z", 6))))]
        self.assertEqual(self.right(rows, odd), "paper")
        rests = [rest(12, -1, ("x", 1)), rest(11, -3, ("x", 1)), rest(7, -4, ("x", 1)), rest(5, -2, ("x", 1))]
        self.assertEqual(self.right(rows, rests), "book")
        self.assertEqual(self.right(rows, rests + [rest(9, 0, ("x", 1))]), "paper")


TEXT = """box x 0 2 0
box y -1 2 1
lock l
hand p
while x < 2
say y >= 0
take l
label mid
say l = 1 and not at q mid
set x = x + 1, y = 1 - y
say l = 1
give l
end
say x >= 2
end
hand q
own k 0 1 0
take l
label mid
say l = 2 and [2 divides k or x <= 1]
either
set k = 1 - k
or
wait y > 0
end
say l = 2
give l
say k <= 1
end"""


class Duties(Case):
    def look(self, program, annotation):
        rows = box_rows(program)
        told = collections.Counter()
        for duty in duties_of(program):
            forms = duty_forms(program, annotation, duty)
            answer = answer_of(rows, forms, MILLION)
            self.assertTrue(is_right(rows, forms, answer), duty)
            told[answer[0]] += 1
            if answer[0] == "book":
                self.breaks(program, annotation, duty, answer[1])
            else:
                self.assertFalse(many_books(rows) <= 300 and has_book(rows, forms))
        return told

    # By the words of [26], not by the forms.
    def breaks(self, program, annotation, duty, book):
        places = {hand: book["@" + hand] for hand, many in program[1]}
        boxes = {box[0]: book[box[0]] for box in program[0]}
        if duty[0] == "start":
            self.assertEqual(places, {hand: 0 for hand, many in program[1]})
            self.assertEqual(boxes, {box[0]: box[4] for box in program[0]})
            self.assertFalse(holds(annotation[(duty[1], 0)], boxes, places))
            return
        hand, start, guard, sets, to = program[2][duty[1]]
        there = (hand, to) if duty[0] == "own" else (duty[2], duty[3])
        self.assertEqual(places[hand], start)
        self.assertTrue(holds(annotation[(hand, start)], boxes, places))
        self.assertTrue(holds(guard, boxes, places))
        if duty[0] == "other":
            self.assertEqual(places[duty[2]], duty[3])
            self.assertTrue(holds(annotation[there], boxes, places))
        self.assertFalse(holds(behind(annotation[there], hand, sets, to), boxes, places))

    def test_a_program(self):
        told = self.look(*lay_out(read_program(TEXT)))
        self.assertGreater(told["paper"], 30)
        self.assertGreater(told["book"], 0)

    def test_long_stretches(self):
        text = TEXT.replace("box x 0 2 0", "box x -%d %d 0" % (10 ** 30, 10 ** 30))
        self.look(*lay_out(read_program(text.replace("own k 0 1 0", "own k 0 %d 0" % 10 ** 29))))

    def test_seeded_programs(self):
        rng = source_of(297)
        told = collections.Counter()
        for _ in range(120):
            program = small_program(rng)
            told += self.look(program, small_annotation(rng, program, rng.randrange(1, 4)))
        self.assertGreater(told["paper"], 1000)
        self.assertGreater(told["book"], 50)


class Kept(Case):
    def test_what_is_handed_in_stays(self):
        rng = source_of(298)
        for _ in range(100):
            rows = some_stretches(rng, NAMES)
            forms = [some_form(rng, 3, [row[0] for row in rows], 3) for _ in range(3)]
            before = copy.deepcopy((rows, forms))
            first = answer_of(rows, forms, MILLION)
            kept = copy.deepcopy(first)
            self.assertEqual((rows, forms), before)
            if first[0] == "book":
                first[1].clear()
                first[1]["x"] = "gone"
            self.assertEqual(answer_of(rows, forms, MILLION), kept)
            rows.append(("new", 0, 1))
            forms.append(FALSE)
            self.assertEqual(answer_of(before[0], before[1], MILLION), kept)

    def test_a_paper_stays_let_by(self):
        rows, forms = thirds(8)
        paper = answer_of(rows, forms, MILLION)[1]
        self.assertTrue(let_by(rows, forms, paper))
        self.assertFalse(let_by(rows, forms[:1], paper))
        self.assertLess(deep_of(paper), 90)
        self.assertIsInstance(hash(paper), int)


if __name__ == "__main__":
    unittest.main()
