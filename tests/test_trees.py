import copy
import unittest

from calm.errors import NoText
from calm.trees import read_program

TRUE = ("and", ())
X1 = ("most", (-1, (("x", 1),)))
SET = ("set", (("x", (1, ())),))

WHOLE = """box x 0 10 3
lock l
box y2 -5 -1 -3
hand left
own m -1000000000000000000000000000000 1000000000000000000000000000000 0
label top
set x = x + 1, m = 0
say x <= 1
wait at right loop
end
hand right
while true
label loop
either
take l
or
give l
or
end
end
if x <= 1
rounds 9
set x = 1
end
else
set m = 2 * y2 - 1
end
label last
say at left top
end"""

WHOLE_TREE = (
    [("x", 0, 10, 3), ("y2", -5, -1, -3)],
    ["l"],
    [
        ("left", [("m", -10 ** 30, 10 ** 30, 0)], [
            ("label", "top"),
            ("set", (("x", (1, (("x", 1),))), ("m", (0, ())))),
            ("say", X1),
            ("wait", ("at", "right", "loop")),
        ]),
        ("right", [], [
            ("while", TRUE, [
                ("label", "loop"),
                ("either", ([("take", "l")], [("give", "l")], [])),
            ]),
            ("if", X1, [("rounds", 9, [SET])], [("set", (("m", (-1, (("y2", 2),))),))]),
            ("label", "last"),
            ("say", ("at", "left", "top")),
        ]),
    ],
)


def in_hand(*rows):
    return "\n".join(("hand h",) + rows + ("end",))


def rows_of(*rows):
    return read_program(in_hand(*rows))[2][0][2]


def refusal_of(text):
    try:
        return read_program(text)
    except NoText as refused:
        return refused.row


class Read(unittest.TestCase):
    def test_whole(self):
        self.assertEqual(read_program(WHOLE), WHOLE_TREE)

    def test_least(self):
        self.assertEqual(read_program("hand h\nend"), ([], [], [("h", [], [])]))

    def test_kinds(self):
        tree = read_program(WHOLE)
        self.assertIs(type(tree), tuple)
        self.assertEqual([type(part) for part in tree], [list] * 3)
        self.assertEqual([type(box) for box in tree[0] + tree[2]], [tuple] * 4)
        self.assertEqual([type(part) for part in tree[2][1]], [str, list, list])
        loop, choice = tree[2][1][2][0], tree[2][1][2][1]
        self.assertIs(type(loop[2]), list)
        self.assertIs(type(loop[2][1][1]), tuple)
        self.assertEqual([type(way) for way in loop[2][1][1]], [list] * 3)
        self.assertEqual([type(part) for part in choice[2:]], [list] * 2)
        self.assertIs(type(tree[2][0][2][1][1]), tuple)

    def test_boxes_and_locks_in_any_order(self):
        told = read_program("lock a\nbox b 0 0 0\nlock c\nbox d -2 -1 -2\nhand h\nend")
        self.assertEqual(told, ([("b", 0, 0, 0), ("d", -2, -1, -2)], ["a", "c"], [("h", [], [])]))

    def test_names_are_not_asked_to_be_unlike_or_known(self):
        told = read_program("box h 0 0 0\nlock h\nhand h\nown h 0 0 0\nset q = z\nlabel h\nlabel h\nend\nhand h\nend")
        rows = [("set", (("q", (0, (("z", 1),))),)), ("label", "h"), ("label", "h")]
        self.assertEqual(told, ([("h", 0, 0, 0)], ["h"], [("h", [("h", 0, 0, 0)], rows), ("h", [], [])]))

    def test_many_boxes_and_hands(self):
        text = "\n".join(["box x 0 1 0"] * 300 + ["hand h\nend"] * 200)
        tree = read_program(text)
        self.assertEqual((len(tree[0]), len(tree[2])), (300, 200))

    def test_rows_may_be_none(self):
        self.assertEqual(rows_of("if true", "end"), [("if", TRUE, [], [])])
        self.assertEqual(rows_of("if true", "else", "end"), [("if", TRUE, [], [])])
        self.assertEqual(rows_of("if true", "set x = 1", "else", "end"), [("if", TRUE, [SET], [])])
        self.assertEqual(rows_of("if true", "else", "set x = 1", "end"), [("if", TRUE, [], [SET])])
        self.assertEqual(rows_of("while true", "end"), [("while", TRUE, [])])
        self.assertEqual(rows_of("rounds 0", "end"), [("rounds", 0, [])])
        self.assertEqual(rows_of("either", "or", "end"), [("either", ([], []))])

    def test_sets_stay_in_their_order(self):
        told = rows_of("set y = 1, x = y - 2, a = 0 * x")
        self.assertEqual(told, [("set", (("y", (1, ())), ("x", (-2, (("y", 1),))), ("a", (0, ()))))])

    def test_blanks(self):
        text = ("\n  \n box   x  - 5 5 -2  \n\n   hand  h \n   \nset x=-1 ,y=x+ 2*y\n  if x<=1\n"
                "set x=1\n end \nwait[at  h l]\n  end  \n\n  ")
        rows = [("set", (("x", (-1, ())), ("y", (0, (("x", 1), ("y", 2)))))), ("if", X1, [SET], []),
                ("wait", ("at", "h", "l"))]
        self.assertEqual(read_program(text), ([("x", -5, 5, -2)], [], [("h", [], rows)]))

    def test_blanks_about_signs_of_ends(self):
        for row in ("box x -3 -1 -2", "box x-3-1-2", "box x - 3 - 1 - 2", "  box  x -3- 1 -2 "):
            self.assertEqual(read_program(row + "\nhand h\nend")[0], [("x", -3, -1, -2)])

    def test_five_deep(self):
        rows = ["if true", "while true", "rounds 1", "either", "while true"]
        ends = ["end", "or", "end", "end", "end", "end"]
        told = [("if", TRUE, [("while", TRUE, [("rounds", 1, [("either", ([("while", TRUE, [SET])], []))])])], [])]
        self.assertEqual(rows_of(*rows, "set x = 1", *ends), told)
        self.assertEqual(len(rows_of(*(["while true"] * 5 + ["end"] * 5) * 2)), 2)

    def test_labels_and_says(self):
        self.assertEqual(rows_of("label a", "say true", "label b"),
                         [("label", "a"), ("say", TRUE), ("label", "b")])
        self.assertEqual(rows_of("while true", "label a", "say true", "set x = 1", "end"),
                         [("while", TRUE, [("label", "a"), ("say", TRUE), SET])])
        self.assertEqual(rows_of("if true", "say true", "while true", "end", "end"),
                         [("if", TRUE, [("say", TRUE), ("while", TRUE, [])], [])])
        self.assertEqual(rows_of("label a", "if true", "end"), [("label", "a"), ("if", TRUE, [], [])])

    def test_told_is_the_askers_own(self):
        first = read_program(WHOLE)
        kept = copy.deepcopy(first)
        first[0].clear()
        first[1].append("z")
        first[2][1][2][0][2].clear()
        first[2].pop(0)
        self.assertEqual(read_program(WHOLE), kept)


class Refused(unittest.TestCase):
    def check(self, text, row):
        self.assertEqual((text, refusal_of(text)), (text, row))

    def check_row(self, row):
        """As a row of a hand's statements, the third row of the text."""
        self.check(in_hand("set x = 1", row, "set ! bad"), 3)

    def check_head(self, row):
        self.check("lock l\n" + row + "\nhand h\nend", 2)

    def test_rows_that_are_none(self):
        for row in (
            "x", "3", "=", "set", "set x", "set x =", "set x = 1,", "set x = 1, y", "set x = 1 y = 2", "set = 1",
            "set x = 1 = 2", "set x <= 1", "set x = 1; y = 2", "set x = true", "set x = y, end = 1", "set or = 1",
            "set x = y * 2", "set abcdefghi = 1", "set 1 = x", "set x = 1000000000", "set x = 999999999 + 1",
            "set x = 01", "set x = x, y = + 1", "set x = 1, , y = 2", "set x, y = 1",
            "wait", "wait x", "wait x <= 1 y", "wait true true", "wait at h 3", "wait not at h 0", "wait at h",
            "wait x <= 1000000000", "wait 13 divides x", "wait at h end", "wait [true", "wait " + "[" * 21 + "true" + "]" * 21,
            "wait " + "not " * 60 + "true", "wait " + " and ".join(["x=1"] * 20), "say", "say x + 1", "say at h 1",
            "take", "take x y", "take 1", "take or", "take x,", "give", "give x y", "give end", "give abcdefghi",
            "label", "label 1", "label x y", "label end", "label 1x", "label abcdefghi", "label -x",
            "if", "if x", "if true true", "if at h 1", "while", "while x", "while true,", "while at h 1",
            "rounds", "rounds 10", "rounds -1", "rounds 01", "rounds x", "rounds 1 2", "rounds 1000000000", "rounds -0",
            "either x", "either true", "Set x = 1", "set x = 1%", "set\tx = 1", "# set", "notaword", "setx = 1", "waittrue",
        ):
            self.check_row(row)

    def test_rows_that_are_none_ahead_of_hands(self):
        for row in (
            "box", "box x", "box x 0", "box x 0 1", "box x 0 1 0 0", "box 0 1 0", "box end 0 1 0", "box x 0 1 y",
            "box abcdefghi 0 1 0", "box x 00 1 0", "box x 0 01 0", "box x 0 1 + 0", "box x 0, 1, 0", "box x y 0 1 0",
            "lock", "lock x y", "lock 1", "lock end", "lock abcdefghi", "hand", "hand x y", "hand 1", "hand hand",
            "hand abcdefghi", "bo x", "x", "set x = 1", "own x 0 1 0", "end", "else", "or", "label x", "12", "box x 0 1 --1",
        ):
            self.check_head(row)

    def test_own_rows_that_are_none(self):
        for row in ("own", "own x", "own x 0 1", "own x 0 1 0 0", "own x 0 1 0 y", "own 0 1 0", "own end 0 1 0",
                    "own abcdefghi 0 1 0", "own x 0 01 0", "own x 0 1 -0"):
            self.check(f"hand h\nown y 0 1 0\n{row}\nbad", 3)

    def test_ends_of_stretches(self):
        great = str(10 ** 30)
        for ends in (f"-{great} {great} {great}", f"-{great} {great} -{great}", "0 0 0", "-1 -1 -1"):
            self.assertEqual(len(read_program(f"box x {ends}\nhand h\nend")[0]), 1)
        for ends in (
            "5 9 4", "0 9 10", "-3 -5 -4", "1 0 0", "0 -1 0", "1 0 1", "-0 1 0", "0 -0 0", "0 1 -0", "- 0 1 0",
            f"0 {10 ** 30 + 1} 0", f"-{10 ** 30 + 1} 0 0", f"0 1{great} 0", f"0 {'9' * 1900} 0", f"0 {'9' * 5000} 0",
        ):
            self.check_head(f"box x {ends}")
            self.check(f"hand h\nown y 0 1 0\nown x {ends}\nend", 3)

    def test_what_cannot_stand_there(self):
        for row in ("box x 0 1 0", "lock l", "hand g", "own x 0 1 0", "else", "or"):
            self.check_row(row)
        self.check("hand h\nend\nbox x 0 1 0\nhand g\nend", 3)
        self.check("hand h\nend\nlock x\nhand g\nend", 3)
        self.check("hand h\nend\nown x 0 1 0\nend", 3)
        self.check("hand h\nend\nset x = 1\nend", 3)
        self.check("hand h\nend\nend", 3)
        self.check("hand h\nbox x 0 1 0\nend", 2)
        self.check("hand h\nlock x\nend", 2)
        self.check("hand h\nhand g\nend\nend", 2)
        self.check(in_hand("label a", "own x 0 1 0"), 3)
        self.check(in_hand("if true", "own x 0 1 0", "end"), 3)
        self.check(in_hand("own x 0 1 0", "set x = 1", "own y 0 1 0"), 4)

    def test_else_or_end_out_of_place(self):
        self.check(in_hand("if true", "else", "else", "end"), 4)
        self.check(in_hand("if true", "or", "end"), 3)
        self.check(in_hand("if true", "else", "or", "end"), 4)
        self.check(in_hand("while true", "else", "end"), 3)
        self.check(in_hand("while true", "or", "end"), 3)
        self.check(in_hand("rounds 2", "else", "end"), 3)
        self.check(in_hand("rounds 2", "or", "end"), 3)
        self.check(in_hand("either", "else", "or", "end"), 3)
        self.check(in_hand("either", "or", "else", "end"), 4)
        self.check(in_hand("if true", "end", "else", "end"), 4)
        for row in ("else true", "else if", "or true", "end end", "end x", "end h"):
            self.check(in_hand("if true", row, "end"), 3)
        self.check("hand h\nend h", 2)
        self.check("hand h\nelse", 2)

    def test_an_either_of_one_way(self):
        self.check(in_hand("either", "end"), 3)
        self.check(in_hand("either", "set x = 1", "end"), 4)

    def test_a_sixth_statement_with_rows(self):
        for word in ("if true", "while true", "rounds 1", "either"):
            for outer in ("if true", "while true", "rounds 1", "either"):
                self.check(in_hand(*[outer] * 5, word, *["end"] * 6), 7)
        self.check(in_hand("if true", "else", *["while true"] * 5, *["end"] * 6), 8)
        self.check(in_hand("either", "or", *["while true"] * 5, *["end"] * 6), 8)

    def test_a_box_twice_in_a_set(self):
        self.check_row("set x = 1, x = 2")
        self.check_row("set x = 1, y = 2, x = 1")

    def test_the_first_bad_row_is_told(self):
        self.check("box x 0 1 0\n\nbox y 3 1 2\nbad\nhand h\nend", 3)
        self.check("\n \n\nbad\nbad", 4)
        self.check("hand h\nset x = 1\n   \nset x =\nset !\nend", 4)
        self.check("hand h\nwait x\nend\nbad", 2)
        self.check("bad", 1)
        self.check(in_hand("if x", "bad"), 2)
        self.check(in_hand("if true", "set x = 1 !", "else", "else"), 3)
        self.check("hand h\nset x = 1, x = 2\n%", 2)
        self.check("hand h\nown x 2 1 1\n%", 2)
        self.check("hand h x\n%", 1)
        self.check(in_hand("either x", "%"), 2)
        self.check(in_hand("rounds 1 1", "%"), 2)
        self.check(in_hand("if true", "end x", "%"), 3)
        self.check("hand h\nend x\n%", 2)
        self.check("hand h\nend\n%", 3)

    def test_texts_that_end_too_early(self):
        self.check("", 2)
        self.check("   ", 2)
        self.check("\n", 3)
        self.check("box x 0 1 0", 2)
        self.check("box x 0 1 0\nlock l\n", 4)
        self.check("hand h", 2)
        self.check("hand h\n\n", 4)
        self.check("hand h\nown x 0 1 0", 3)
        self.check("hand h\nset x = 1", 3)
        self.check("hand h\nif true\nend", 4)
        self.check("hand h\nif true", 3)
        self.check("hand h\nif true\nelse\n", 5)
        self.check("hand h\neither\nor", 4)
        self.check("hand h\nlabel a", 3)
        self.check("hand h\nwhile true\nlabel a", 4)
        self.check("hand h\nend\nhand g", 4)

    def test_a_label_or_say_at_the_end_of_rows(self):
        for mark in ("label a", "say true"):
            self.check(in_hand("if true", mark, "end"), 4)
            self.check(in_hand("if true", mark, "else", "end"), 4)
            self.check(in_hand("if true", "else", mark, "end"), 5)
            self.check(in_hand("while true", "set x = 1", mark, "end"), 5)
            self.check(in_hand("rounds 0", mark, "", "end"), 5)
            self.check(in_hand("either", mark, "or", "end"), 4)
            self.check(in_hand("either", "or", mark, "or", "end"), 5)
            self.check(in_hand("either", "or", mark, "end"), 5)
            self.check(in_hand("while true", mark, "label b", "say true", "end"), 6)
            self.check(in_hand("while true", "while true", "end", mark, "end"), 6)
            self.check(in_hand("while true", mark, "bad", "end"), 4)


class Long(unittest.TestCase):
    def test_a_thousand_rows_of_two_thousand_signs(self):
        row = "set " + ", ".join(f"x{k} = x + {k}" for k in range(120))
        text = in_hand(*[row] * 998)
        self.assertEqual(len(read_program(text)[2][0][2]), 998)
