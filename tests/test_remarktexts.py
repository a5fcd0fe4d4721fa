import re
import unittest

from calm.errors import NoText
from calm.remarks import holds, parts_in
from calm.remarktexts import read_remark, show_remark
from tests.samples import LABELS, some_remark, source_of, strewn, tight

TRUE = ("and", ())
FALSE = ("or", ())
X1 = ("most", (-1, (("x", 1),)))
Y2 = ("most", (2, (("y", -1),)))
AT = ("at", "h", 3)
BIG = 999999999

WRITTEN = (
    (X1, "x <= 1"),
    (Y2, "-y <= -2"),
    (("most", (0, (("x", -3), ("y", 1)))), "-3 * x + y <= 0"),
    (("most", (5, ())), "0 <= -5"),
    (("most", (-5, ())), "0 <= 5"),
    (("most", (0, ())), "0 <= 0"),
    (("most", (BIG, (("x", -BIG),))), "-999999999 * x <= -999999999"),
    (("rest", (-1, (("x", 2),)), 3), "3 divides 2 * x - 1"),
    (("rest", (0, ()), 12), "12 divides 0"),
    (AT, "at h 3"),
    (("at", "h2", 0), "at h2 0"),
    (("at", "h", 99), "at h 99"),
    (("at", "h", "top"), "at h top"),
    (TRUE, "true"),
    (FALSE, "false"),
    (("not", X1), "not x <= 1"),
    (("not", ("not", AT)), "not not at h 3"),
    (("not", TRUE), "not true"),
    (("not", FALSE), "not false"),
    (("and", (X1, AT)), "x <= 1 and at h 3"),
    (("or", (X1, AT, Y2)), "x <= 1 or at h 3 or -y <= -2"),
    (("and", (("or", (X1, AT)), Y2)), "[x <= 1 or at h 3] and -y <= -2"),
    (("and", (Y2, ("and", (X1, AT)))), "-y <= -2 and [x <= 1 and at h 3]"),
    (("or", (("or", (X1, AT)), Y2)), "[x <= 1 or at h 3] or -y <= -2"),
    (("or", (("and", (X1, AT)), Y2)), "x <= 1 and at h 3 or -y <= -2"),
    (("or", (X1, ("and", (AT, Y2)))), "x <= 1 or at h 3 and -y <= -2"),
    (("not", ("and", (X1, AT))), "not [x <= 1 and at h 3]"),
    (("not", ("or", (X1, AT))), "not [x <= 1 or at h 3]"),
    (("and", (("not", X1), ("not", ("or", (AT, TRUE))))), "not x <= 1 and not [at h 3 or true]"),
    (("and", (TRUE, FALSE)), "true and false"),
    (("or", (TRUE, FALSE, X1)), "true or false or x <= 1"),
    (("or", (("and", (TRUE, TRUE)), ("not", FALSE))), "true and true or not false"),
)

READ = (
    ("x <= 1", X1),
    ("x < 2", X1),
    ("1 >= x", X1),
    ("2 > x", X1),
    ("x = 1", ("and", (X1, ("most", (1, (("x", -1),)))))),
    ("x + y <= y + 1", X1),
    ("x >= 3 * y - 2", ("most", (-2, (("x", -1), ("y", 3))))),
    ("x > 3 * y - 2", ("most", (-1, (("x", -1), ("y", 3))))),
    ("x < y", ("most", (1, (("x", 1), ("y", -1))))),
    ("x <= -1", ("most", (1, (("x", 1),)))),
    ("x<=- 1", ("most", (1, (("x", 1),)))),
    ("not x = 0", ("not", ("and", (("most", (0, (("x", 1),))), ("most", (0, (("x", -1),))))))),
    ("x = 1 and at h 3", ("and", (("and", (X1, ("most", (1, (("x", -1),))))), AT))),
    ("at h 3 and x = 1", ("and", (AT, ("and", (X1, ("most", (1, (("x", -1),)))))))),
    ("x = x", ("and", (("most", (0, ())), ("most", (0, ()))))),
    ("[x <= 1]", X1),
    ("[[ [true] ]]", TRUE),
    ("[not [at h 3]]", ("not", AT)),
    ("not [not [x <= 1]]", ("not", ("not", X1))),
    ("[x<=1]and[at h 3]", ("and", (X1, AT))),
    ("[x <= 1 and at h 3]", ("and", (X1, AT))),
    ("[x <= 1 and at h 3] or -y <= -2", ("or", (("and", (X1, AT)), Y2))),
    ("x <= 1 and at h 3 and -y <= -2", ("and", (X1, AT, Y2))),
    ("not x <= 1 and at h 3", ("and", (("not", X1), AT))),
    ("not not true or false", ("or", (("not", ("not", TRUE)), FALSE))),
    ("true and false or true", ("or", (("and", (TRUE, FALSE)), TRUE))),
    ("true or false and true", ("or", (TRUE, ("and", (FALSE, TRUE))))),
    ("notx <= 1", ("most", (-1, (("notx", 1),)))),
    ("not-x<=1", ("not", ("most", (-1, (("x", -1),))))),
    ("2 divides-x", ("rest", (0, (("x", -1),)), 2)),
    ("2 divides x + 1 and true", ("and", (("rest", (1, (("x", 1),)), 2), TRUE))),
    ("not 12 divides x", ("not", ("rest", (0, (("x", 1),)), 12))),
    ("2 <= x", ("most", (2, (("x", -1),)))),
    ("at h 10", ("at", "h", 10)),
    ("at hand1 atx", ("at", "hand1", "atx")),
    ("0 * x <= 0", ("most", (0, ()))),
)

AT_BOUND = (
    ("x <= 999999999", ("most", (-BIG, (("x", 1),)))),
    ("x <= -999999999", ("most", (BIG, (("x", 1),)))),
    ("x < 999999999", ("most", (1 - BIG, (("x", 1),)))),
    ("x < -999999998", ("most", (BIG, (("x", 1),)))),
    ("x > 999999998", ("most", (BIG, (("x", -1),)))),
    ("x > -999999999", ("most", (1 - BIG, (("x", -1),)))),
    ("x - 1 < 999999999", ("most", (-BIG, (("x", 1),)))),
    ("999999999 * x <= y", ("most", (0, (("x", BIG), ("y", -1))))),
    ("999999998 * x >= -x", ("most", (0, (("x", -BIG),)))),
    ("x + 999999998 = -1", ("and", (("most", (BIG, (("x", 1),))), ("most", (-BIG, (("x", -1),)))))),
)

BEYOND = (
    "x <= 1000000000", "x >= -1000000000", "1000000000 * x <= 0", "1000000000 >= x", "x + 999999999 + 1 <= 1",
    "x <= 1000000000 - 1", "x - 1 <= 999999999", "x + 1 <= -999999999", "1 <= x - 999999999", "x = y + 999999999 + 1",
    "x < -999999999", "x > 999999999", "x + 1 > 1000000000", "999999999 + x = -1", "-1 = x + 999999999",
    "999999999 * x <= -x", "999999999 * x + x <= x", "x <= 999999999 * x + x", "-999999999 * x = x",
    "x - 2 < 999999999", "x - 999999999 > 1", "2 divides 1000000000", "2 divides 999999999 + x + 1", "2 divides 999999999 * x + x",
    "9" * 1990 + " <= x", "x <= " + "9" * 5000, "at h " + "9" * 5000,
)

REFUSED = (
    "", "  ", "x", "3", "x + 1", "-x", "x y", "x <=", "<= x", "x <", "= x", "<=", "=", "x <= y <= z", "x = y = z",
    "x < y > z", "x < = y", "x > = y", "x =< y", "x => y", "x == y", "x <> y", "x <= <= y", "x <= + 1", "x <= - - 1",
    "[", "]", "[]", "[x <= 1", "x <= 1]", "[[x <= 1]", "[x <= 1]]", "[x] <= 1", "x <= [1]", "[x <= 1] <= 1", "(x <= 1)",
    "] x <= 1 [", "[x <= 1] [y <= 1]", "x <= 1 [and] y <= 1",
    "0 divides x", "1 divides x", "13 divides x", "02 divides x", "-2 divides x", "2 divides", "divides x", "y divides x",
    "2 divides x <= 1", "2 * x divides y", "2divides x", "2 dividesx", "2 divides 3 divides x", "2 divides [x]", "120 divides x",
    "at", "at h", "at 3", "at h at", "at 3 h", "at h 100", "at h 00", "at h 03", "at h -1", "at h x + 1", "at and 3",
    "at h or", "at abcdefghi 3", "at h abcdefghi", "at h 3 4", "at h 3x", "at3 h", "at h3", "at h 1 <= 2",
    "true false", "true <= 1", "true and", "and true", "true or", "or", "not", "true not", "true not true", "nottrue",
    "not and true", "true and or true", "true and and true", "not or", "true or or true", "true,", "true, true",
    "and <= 1", "x <= or", "box <= 1", "abcdefghi <= 1", "x * 3 <= 1", "01 <= x", "x <= 01", "x <= 00", "3 x <= 1",
    "x <= 1and y <= 2", "x % 2 <= 1", "x <= 1\n", "\ntrue", "true\nand true", "TRUE", "x != 1", "x <= 1;", "label x", "set x = 1",
)


def refusal_of(text):
    try:
        return read_remark(text)
    except NoText as refused:
        return refused.row


class Shown(unittest.TestCase):
    def test_written(self):
        for remark, text in WRITTEN:
            self.assertEqual(show_remark(remark), text)

    def test_great_numbers(self):
        self.assertEqual(show_remark(("most", (10 ** 35, (("x", -1),)))), f"-x <= -{10 ** 35}")


class Read(unittest.TestCase):
    def test_what_is_written_is_read(self):
        for remark, text in WRITTEN:
            self.assertEqual(read_remark(text), remark)

    def test_read(self):
        for text, remark in READ:
            self.assertEqual(read_remark(text), remark, text)

    def test_refused(self):
        for text in REFUSED:
            self.assertEqual((text, refusal_of(text)), (text, 1))

    def test_places(self):
        for place in range(100):
            self.assertEqual(read_remark(f"at h {place}"), ("at", "h", place))
            self.assertIs(type(read_remark(f"at h {place}")[2]), int)

    def test_rests(self):
        for divisor in range(2, 13):
            self.assertEqual(read_remark(f"{divisor} divides x"), ("rest", (0, (("x", 1),)), divisor))

    def test_many_remarks_with_blanks_without_and_in_brackets(self):
        rng = source_of(8)
        read = 0
        for _ in range(800):
            remark = some_remark(rng, 4, (0, 7, 99) + LABELS)
            text = show_remark(remark)
            if parts_in(remark) > 60:
                continue
            read += 1
            for form in (text, tight(text), strewn(text, rng), f"[{text}]", f" [ [{text} ]] "):
                self.assertEqual(read_remark(form), remark, form)
        self.assertGreater(read, 600)

    def test_told_anew_each_time(self):
        self.assertEqual(read_remark("x = 1"), read_remark("x = 1"))


class Bounds(unittest.TestCase):
    def test_numbers_at_their_bounds(self):
        for text, remark in AT_BOUND:
            self.assertEqual(read_remark(text), remark, text)

    def test_numbers_beyond_their_bounds(self):
        for text in BEYOND:
            self.assertEqual((text, refusal_of(text)), (text, 1))

    def test_sixty_parts(self):
        for many, told in ((59, 60), (60, 61)):
            for text in (" and ".join(["true"] * many), " or ".join(["x<1"] * many), "not " * many + "true"):
                if told == 60:
                    self.assertEqual(parts_in(read_remark(text)), 60)
                else:
                    self.assertEqual(refusal_of(text), 1)

    def test_an_equals_has_three_parts(self):
        nineteen = " and ".join(["x = 1"] * 19)
        self.assertEqual(parts_in(read_remark(nineteen + " and true and true")), 60)
        self.assertEqual(refusal_of(nineteen + " and true and true and true"), 1)
        self.assertEqual(refusal_of(" or ".join(["x = 1"] * 20)), 1)
        self.assertEqual(parts_in(read_remark("not " * 57 + "x = 1")), 60)
        self.assertEqual(refusal_of("not " * 58 + "x = 1"), 1)

    def test_a_row_full_of_nots_is_refused(self):
        self.assertEqual(refusal_of("not " * 490 + "true"), 1)
        self.assertEqual(refusal_of(("not " * 90 + "[") * 5 + "true" + "]" * 5), 1)

    def test_twenty_brackets_open(self):
        for many in range(1, 21):
            self.assertEqual(read_remark("[" * many + "x <= 1" + "]" * many), X1)
        for many in (21, 22, 900):
            self.assertEqual(refusal_of("[" * many + "x <= 1" + "]" * many), 1)
            self.assertEqual(refusal_of("[" * many), 1)

    def test_brackets_closed_again_do_not_count(self):
        text = " and ".join(["[" * 20 + "true" + "]" * 20] * 30)
        self.assertEqual(read_remark(text), ("and", (TRUE,) * 30))
        self.assertEqual(refusal_of(text + " or " + "[" * 21 + "true" + "]" * 21), 1)


class Meaning(unittest.TestCase):
    """Texts made by chance, read by Python's own rules and by the program's."""

    def some_text(self, rng, deep):
        if deep == 0 or rng.random() < 0.25:
            return self.some_single(rng)
        joint = rng.choice((" and ", " or ", "not ", "["))
        if joint == "not ":
            return "not " + self.some_text(rng, 0 if rng.random() < 0.5 else deep - 1)
        if joint == "[":
            return "[" + self.some_text(rng, deep - 1) + "]"
        return joint.join(self.some_text(rng, deep - 1) for _ in range(rng.randrange(2, 4)))

    def some_side(self, rng):
        pieces = [rng.choice(("x", "y", "2 * x", "3 * y", "1", "4", "0 * x")) for _ in range(rng.randrange(1, 4))]
        text = rng.choice(("", "-")) + pieces[0]
        for piece in pieces[1:]:
            text += rng.choice((" + ", " - ")) + piece
        return text

    def some_single(self, rng):
        kind = rng.randrange(8)
        if kind == 0:
            return rng.choice(("true", "false"))
        if kind == 1:
            return f"at h {rng.randrange(3)}"
        if kind == 2:
            return f"{rng.randrange(2, 13)} divides {self.some_side(rng)}"
        sign = rng.choice((" <= ", " < ", " >= ", " > ", " = "))
        return self.some_side(rng) + sign + self.some_side(rng)

    def as_python(self, text):
        text = re.sub(r"(\d+) divides ([-+* xy0-9]+?)(?=( and | or |\]|$))", r"(\2) % \1 == 0", text)
        text = re.sub(r"at h (\d+)", r"(h == \1)", text)
        text = re.sub(r"(?<![<>=])=(?!=)", "==", text)
        return text.replace("[", "(").replace("]", ")").replace("true", "True").replace("false", "False")

    def test_meaning(self):
        rng = source_of(88)
        seen = {True: 0, False: 0}
        for _ in range(500):
            text = self.some_text(rng, 3)
            if isinstance(refusal_of(text), int):
                continue
            remark = read_remark(text)
            for x, y, h in ((0, 0, 0), (1, -2, 1), (-5, 3, 2), (4, 1, 0)):
                told = bool(eval(self.as_python(text), {"x": x, "y": y, "h": h}))
                self.assertIs(holds(remark, {"x": x, "y": y}, {"h": h}), told, text)
                seen[told] += 1
        self.assertGreater(min(seen.values()), 300)
