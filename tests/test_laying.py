import copy
import unittest

from calm.errors import NoName, TooMany, Twice
from calm.laying import counted, lay_out
from calm.trees import read_program
from tests.samples import source_of
from tests.test_trees import WHOLE_TREE

TRUE = ("and", ())
FALSE = ("or", ())
X1 = ("most", (-1, (("x", 1),)))
Y0 = ("most", (0, (("y", 1),)))
HEAD = "box x 0 9 0\nbox y -3 3 1\nlock l\nlock k\n"


def tree_of(*rows):
    """A tree of one hand h with these rows, behind two boxes and two locks."""
    return read_program(HEAD + "\n".join(("hand h",) + rows + ("end",)))


def laid(*rows):
    return lay_out(tree_of(*rows))


def set_to(box, number):
    return ((box, (number, ())),)


def refusal_of(tree):
    try:
        return lay_out(tree)
    except NoName as refused:
        return ("NoName", refused.name)
    except Twice as refused:
        return ("Twice", refused.name)
    except TooMany as refused:
        return ("TooMany", refused.most)


class Steps(unittest.TestCase):
    """The steps of a hand, told as tuples (from, guard, sets, to)."""

    def check(self, rows, places, steps):
        tree = tree_of(*rows)
        program, annotation = lay_out(tree)
        self.assertEqual(program[1], [("h", places)])
        self.assertEqual(program[2], [("h",) + step for step in steps])
        self.assertEqual(annotation, {("h", place): TRUE for place in range(places)})
        self.assertEqual(counted(tree), (places, len(steps)))

    def test_no_rows(self):
        self.check([], 2, [(0, TRUE, (), 1)])

    def test_simple_statements(self):
        self.check(["set x = 1"], 2, [(0, TRUE, set_to("x", 1), 1)])
        self.check(["wait x <= 1"], 2, [(0, X1, (), 1)])
        self.check(["take l"], 2, [(0, ("most", (0, (("l", 1),))), set_to("l", 1), 1)])
        self.check(["give k"], 2, [(0, TRUE, set_to("k", 0), 1)])

    def test_rows_in_order(self):
        self.check(["set x = 1", "wait x <= 1", "take k", "give k"], 5, [
            (0, TRUE, set_to("x", 1), 2),
            (2, X1, (), 3),
            (3, ("most", (0, (("k", 1),))), set_to("k", 1), 4),
            (4, TRUE, set_to("k", 0), 1),
        ])

    def test_sets_sorted_by_box(self):
        sets = (("x", (0, (("l", 1), ("y", 2)))), ("y", (-1, ())))
        self.check(["set y = -1, x = 2 * y + l"], 2, [(0, TRUE, sets, 1)])

    def test_if(self):
        self.check(["if x <= 1", "set x = 2", "end"], 3, [
            (0, X1, (), 2), (0, ("not", X1), (), 1), (2, TRUE, set_to("x", 2), 1),
        ])
        self.check(["if x <= 1", "end"], 3, [(0, X1, (), 2), (0, ("not", X1), (), 1), (2, TRUE, (), 1)])
        self.check(["if not x <= 1", "end"], 3, [
            (0, ("not", X1), (), 2), (0, ("not", ("not", X1)), (), 1), (2, TRUE, (), 1),
        ])

    def test_if_with_second_rows(self):
        self.check(["if x <= 1", "set x = 2", "else", "set x = 3", "end"], 4, [
            (0, X1, (), 2), (0, ("not", X1), (), 3), (2, TRUE, set_to("x", 2), 1), (3, TRUE, set_to("x", 3), 1),
        ])
        self.check(["if x <= 1", "else", "set x = 3", "set x = 4", "end"], 5, [
            (0, X1, (), 2), (0, ("not", X1), (), 3), (2, TRUE, (), 1),
            (3, TRUE, set_to("x", 3), 4), (4, TRUE, set_to("x", 4), 1),
        ])

    def test_while(self):
        self.check(["while x <= 1", "set x = 2", "set x = 3", "end"], 4, [
            (0, X1, (), 2), (0, ("not", X1), (), 1), (2, TRUE, set_to("x", 2), 3), (3, TRUE, set_to("x", 3), 0),
        ])
        self.check(["while x <= 1", "end"], 3, [(0, X1, (), 2), (0, ("not", X1), (), 1), (2, TRUE, (), 0)])

    def test_rounds(self):
        one = (TRUE, set_to("x", 1))
        self.check(["rounds 0", "set x = 1", "end"], 2, [(0, TRUE, (), 1)])
        self.check(["rounds 1", "set x = 1", "end"], 2, [(0, *one, 1)])
        self.check(["rounds 3", "set x = 1", "end"], 4, [(0, *one, 2), (2, *one, 3), (3, *one, 1)])
        self.check(["rounds 2", "set x = 1", "wait x <= 1", "end"], 5, [
            (0, *one, 2), (2, X1, (), 3), (3, *one, 4), (4, X1, (), 1),
        ])
        for many in (0, 1, 2, 9):
            self.check([f"rounds {many}", "end"], 2, [(0, TRUE, (), 1)])

    def test_rounds_within_rounds(self):
        inner = ["rounds 0", "set x = 1", "end"]
        self.check(["rounds 2", *inner, "end"], 3, [(0, TRUE, (), 2), (2, TRUE, (), 1)])
        self.check(["rounds 3", "rounds 1", "end", "end"], 4,
                   [(0, TRUE, (), 2), (2, TRUE, (), 3), (3, TRUE, (), 1)])
        one = (TRUE, set_to("x", 1))
        # The end of the first inner rounds is made ahead of the places within them.
        self.check(["rounds 2", "rounds 2", "set x = 1", "end", "end"], 5,
                   [(0, *one, 3), (3, *one, 2), (2, *one, 4), (4, *one, 1)])

    def test_either(self):
        self.check(["either", "set x = 1", "or", "or", "wait x <= 1", "set x = 3", "end"], 6, [
            (0, TRUE, (), 2), (0, TRUE, (), 3), (0, TRUE, (), 4),
            (2, TRUE, set_to("x", 1), 1), (3, TRUE, (), 1), (4, X1, (), 5), (5, TRUE, set_to("x", 3), 1),
        ])

    def test_within_one_another(self):
        rows = [
            "while y <= 0",
            "if x <= 1", "set x = 1", "else", "rounds 2", "set x = 2", "end", "end",
            "either", "while x <= 1", "end", "or", "if x <= 1", "end", "end",
            "end",
            "set x = 5",
        ]
        self.check(rows, 12, [
            (0, Y0, (), 3), (0, ("not", Y0), (), 2),
            (3, X1, (), 5), (3, ("not", X1), (), 6),
            (5, TRUE, set_to("x", 1), 4),
            (6, TRUE, set_to("x", 2), 7), (7, TRUE, set_to("x", 2), 4),
            (4, TRUE, (), 8), (4, TRUE, (), 9),
            (8, X1, (), 10), (8, ("not", X1), (), 0), (10, TRUE, (), 8),
            (9, X1, (), 11), (9, ("not", X1), (), 0), (11, TRUE, (), 0),
            (2, TRUE, set_to("x", 5), 1),
        ])

    def test_places_of_two_blocks_behind_one_another(self):
        self.check(["if x <= 1", "set x = 1", "end", "while x <= 1", "end", "wait x <= 1"], 6, [
            (0, X1, (), 3), (0, ("not", X1), (), 2), (3, TRUE, set_to("x", 1), 2),
            (2, X1, (), 5), (2, ("not", X1), (), 4), (5, TRUE, (), 2),
            (4, X1, (), 1),
        ])


class Whole(unittest.TestCase):
    def setUp(self):
        self.tree = read_program(
            "box x 0 9 4\nlock l\nbox y -3 3 -1\nlock k\n"
            "hand a\nown m 0 1 1\ntake l\nset m = 0\nend\n"
            "hand b\nend\n"
            "hand c\nown n 5 6 5\nown o -9 -8 -8\ntake l\ngive k\nend"
        )

    def test_boxes(self):
        self.assertEqual(lay_out(self.tree)[0][0], [
            ("x", "", 0, 9, 4), ("y", "", -3, 3, -1), ("l", "", 0, 3, 0), ("k", "", 0, 3, 0),
            ("m", "a", 0, 1, 1), ("n", "c", 5, 6, 5), ("o", "c", -9, -8, -8),
        ])

    def test_hands_steps_locks(self):
        free = ("most", (0, (("l", 1),)))
        program = lay_out(self.tree)[0]
        self.assertEqual(program[1], [("a", 3), ("b", 2), ("c", 3)])
        self.assertEqual(program[2], [
            ("a", 0, free, set_to("l", 1), 2), ("a", 2, TRUE, set_to("m", 0), 1),
            ("b", 0, TRUE, (), 1),
            ("c", 0, free, set_to("l", 3), 2), ("c", 2, TRUE, set_to("k", 0), 1),
        ])
        self.assertEqual(program[3], ("l", "k"))

    def test_kinds(self):
        told = lay_out(self.tree)
        self.assertIs(type(told), tuple)
        self.assertEqual([type(part) for part in told], [tuple, dict])
        self.assertEqual([type(part) for part in told[0]], [list, list, list, tuple])
        for part in told[0][:3]:
            self.assertEqual({type(row) for row in part}, {tuple})
        self.assertEqual({type(step[3]) for step in told[0][2]}, {tuple})

    def test_annotation_of_all_places(self):
        places = [("a", 0), ("a", 1), ("a", 2), ("b", 0), ("b", 1), ("c", 0), ("c", 1), ("c", 2)]
        self.assertEqual(lay_out(self.tree)[1], {place: TRUE for place in places})

    def test_great_ends(self):
        great = 10 ** 30
        tree = ([("x", -great, great, great)], [], [("h", [("m", -great, 0, -great)], [])])
        self.assertEqual(lay_out(tree)[0][0], [("x", "", -great, great, great), ("m", "h", -great, 0, -great)])

    def test_no_boxes(self):
        told = lay_out(([], [], [("h", [], [])]))
        self.assertEqual(told, (([], [("h", 2)], [("h", 0, TRUE, (), 1)], ()), {("h", 0): TRUE, ("h", 1): TRUE}))


class Marks(unittest.TestCase):
    def test_says(self):
        annotation = laid("say x <= 1", "set x = 1", "say y <= 0", "say x <= 1", "say true",
                          "set x = 2", "set x = 3", "say y <= 0", "say false")[1]
        self.assertEqual(annotation, {
            ("h", 0): X1, ("h", 1): ("and", (Y0, FALSE)), ("h", 2): ("and", (Y0, X1, TRUE)), ("h", 3): TRUE,
        })

    def test_two_like_says_and_an_and(self):
        both = ("and", (X1, Y0))
        annotation = laid("say x <= 1 and y <= 0", "set x = 1", "say x <= 1", "say x <= 1")[1]
        self.assertEqual(annotation, {("h", 0): both, ("h", 1): ("and", (X1, X1))})
        self.assertEqual(laid("say x <= 1 and y <= 0", "say true", "set x = 1")[1][("h", 0)], ("and", (both, TRUE)))

    def test_says_within_blocks(self):
        annotation = laid("say true", "while x <= 1", "say x <= 1", "set x = 1", "say y <= 0", "set x = 2", "end",
                          "say false")[1]
        self.assertEqual(annotation, {("h", 0): TRUE, ("h", 1): FALSE, ("h", 2): X1, ("h", 3): Y0})
        annotation = laid("if x <= 1", "say x <= 1", "set x = 1", "else", "say y <= 0", "set x = 1", "end")[1]
        self.assertEqual(annotation, {("h", 0): TRUE, ("h", 1): TRUE, ("h", 2): X1, ("h", 3): Y0})
        annotation = laid("either", "say x <= 1", "set x = 1", "or", "say y <= 0", "set x = 1", "end")[1]
        self.assertEqual(annotation, {("h", 0): TRUE, ("h", 1): TRUE, ("h", 2): X1, ("h", 3): Y0})

    def test_says_in_rounds_come_each_time(self):
        annotation = laid("say y <= 0", "rounds 2", "say x <= 1", "set x = 1", "end", "say y <= 0")[1]
        self.assertEqual(annotation, {("h", 0): ("and", (Y0, X1)), ("h", 1): Y0, ("h", 2): X1})
        annotation = laid("say y <= 0", "rounds 0", "say x <= 1", "set x = 1", "end")[1]
        self.assertEqual(annotation, {("h", 0): Y0, ("h", 1): TRUE})

    def test_a_hand_of_marks_alone(self):
        program, annotation = laid("say x <= 1", "label a", "say at h a")
        self.assertEqual(program[2], [("h", 0, TRUE, (), 1)])
        self.assertEqual(annotation, {("h", 0): TRUE, ("h", 1): ("and", (X1, ("at", "h", 1)))})

    def check_label(self, place, *rows):
        """The label a, asked at the hand's end, is this place."""
        self.assertEqual(laid(*rows, "say at h a")[1][("h", 1)], ("at", "h", place))

    def test_labels(self):
        self.check_label(0, "label a", "set x = 1")
        self.check_label(1, "set x = 1", "label a")
        self.check_label(1, "label a")
        self.check_label(2, "set x = 1", "label b", "label a", "set x = 1")
        self.check_label(3, "set x = 1", "set x = 1", "label a", "set x = 1")
        self.check_label(0, "label a", "while true", "set x = 1", "end")
        self.check_label(2, "while true", "label a", "set x = 1", "end")
        self.check_label(3, "while true", "set x = 1", "label a", "set x = 1", "end")
        self.check_label(2, "while true", "end", "label a", "set x = 1")
        self.check_label(2, "if true", "label a", "set x = 1", "end")
        self.check_label(3, "if true", "else", "label a", "set x = 1", "end")
        self.check_label(3, "either", "or", "label a", "set x = 1", "end")
        self.check_label(0, "rounds 1", "label a", "set x = 1", "end")
        self.check_label(2, "set x = 1", "rounds 1", "label a", "set x = 1", "end")
        self.check_label(2, "while true", "rounds 1", "label a", "set x = 1", "end", "end")

    def test_labels_of_other_hands(self):
        tree = read_program(
            "hand a\nsay at b late and not at a mine\nwait at b late or at b early\nlabel mine\nend\n"
            "hand b\nlabel early\nwait at a mine\nlabel late\nsay not [at a mine or true]\nwait at b mine\nlabel mine\nend"
        )
        program, annotation = lay_out(tree)
        self.assertEqual(program[2], [
            ("a", 0, ("or", (("at", "b", 2), ("at", "b", 0))), (), 1),
            ("b", 0, ("at", "a", 1), (), 2),
            ("b", 2, ("at", "b", 1), (), 1),
        ])
        self.assertEqual(annotation, {
            ("a", 0): ("and", (("at", "b", 2), ("not", ("at", "a", 1)))), ("a", 1): TRUE,
            ("b", 0): TRUE, ("b", 1): TRUE, ("b", 2): ("not", ("or", (("at", "a", 1), TRUE))),
        })

    def test_labels_in_guards_of_blocks(self):
        steps = laid("label a", "if at h a", "while not at h a", "end", "end")[0][2]
        at = ("at", "h", 0)
        self.assertEqual([step[2] for step in steps], [at, ("not", at), ("not", at), ("not", ("not", at)), TRUE])

    def test_a_label_may_be_called_like_a_box_or_a_hand(self):
        self.assertEqual(laid("label x", "label h", "say at h x", "set x = 1")[1][("h", 0)], ("at", "h", 0))


def rounds(many, *rows):
    return ("rounds", many, list(rows))


SET = ("set", (("x", (1, ())),))


def count_of(*rows):
    return counted(([], [], [("h", [], list(rows))]))


class Counted(unittest.TestCase):
    def test_hands_together(self):
        self.assertEqual(counted(WHOLE_TREE), (3 + 17, 2 + 20))
        self.assertEqual(counted(([], [], [("h", [], []), ("h", [], [SET, SET])])), (5, 3))

    def test_great_rounds(self):
        self.assertEqual(count_of(rounds(9, rounds(9, rounds(9, rounds(9, SET))))), (9 ** 4 + 1, 9 ** 4))
        self.assertEqual(count_of(rounds(9, rounds(9, rounds(9)))), (82, 81))
        self.assertEqual(count_of(rounds(9, rounds(9, rounds(0, SET)))), (82, 81))
        self.assertEqual(count_of(rounds(0, rounds(9, SET))), (2, 1))

    def test_rounds_within_eithers(self):
        # Within: an either of two ways, the first of which has many sets, the second of which has none.
        way = rounds(9, rounds(9, rounds(9, SET)))
        inner = ("either", ([way], []))
        places, steps = 2 + 9 ** 3 - 1, 2 + 9 ** 3 + 1
        self.assertEqual(count_of(inner), (2 + places, steps))
        self.assertEqual(count_of(rounds(9, inner, SET)), (2 + 9 * places + 17, 9 * (steps + 1)))
        self.assertEqual(count_of(("while", TRUE, [rounds(9, inner)])), (2 + 1 + 9 * places + 8, 2 + 9 * steps))
        self.assertEqual(count_of(("if", TRUE, [rounds(9, inner)], [])), (2 + 1 + 9 * places + 8, 2 + 9 * steps))
        self.assertEqual(count_of(("if", TRUE, [inner], [way, SET])), (2 + 2 + places + 9 ** 3, 2 + steps + 9 ** 3 + 1))

    def test_however_great(self):
        row, many = SET, 1
        for _ in range(60):
            row, many = rounds(9, row, ("label", "a"), ("say", TRUE)), many * 9
        self.assertEqual(count_of(row), (many + 1, many))
        self.assertEqual(refusal_of(([], [], [("h", [], [row])])), ("TooMany", 24))

    def test_marks_count_for_nothing(self):
        self.assertEqual(count_of(("label", "a"), ("say", TRUE), SET, ("label", "b"), SET, ("label", "c")), (3, 2))
        self.assertEqual(count_of(("label", "a"), ("say", TRUE)), (2, 1))

    def test_it_tells_what_is_laid_out(self):
        rng = source_of(20)
        sizes = []
        for _ in range(400):
            tree = some_named_tree(rng)
            places, steps = counted(tree)
            if places > 24 or steps > 40:
                self.assertEqual(refusal_of(tree), ("TooMany", 24 if places > 24 else 40))
            else:
                program = lay_out(tree)[0]
                self.assertEqual((sum(hand[1] for hand in program[1]), len(program[2])), (places, steps))
                self.check_places(program)
                sizes.append(places)
        self.assertGreater(len(sizes), 100)
        self.assertGreater(len(set(sizes)), 15)

    def check_places(self, program):
        """Each place but the end is left by a step, each but the begin is come to, all have numbers in order."""
        for hand, places in program[1]:
            steps = [step for step in program[2] if step[0] == hand]
            self.assertEqual(sorted({step[1] for step in steps} | {1}), list(range(places)))
            self.assertEqual(sorted({step[4] for step in steps} | {0}), list(range(places)))


def some_named_rows(rng, deep):
    rows = []
    for _ in range(rng.randrange(4)):
        word = rng.choice(("set", "wait", "if", "while", "rounds", "either") if deep else ("set", "wait"))
        if word == "set":
            rows.append(SET)
        elif word == "wait":
            rows.append(("wait", X1))
        elif word == "if":
            rows.append(("if", X1, some_named_rows(rng, deep - 1), some_named_rows(rng, deep - 1)))
        elif word == "while":
            rows.append(("while", X1, some_named_rows(rng, deep - 1)))
        elif word == "rounds":
            rows.append(("rounds", rng.randrange(4), some_named_rows(rng, deep - 1)))
        else:
            ways = [some_named_rows(rng, deep - 1) for _ in range(rng.randrange(2, 4))]
            rows.append(("either", tuple(ways)))
    return rows


def some_named_tree(rng):
    hands = [(name, [], some_named_rows(rng, rng.randrange(4))) for name in ("a", "b")[:rng.randrange(1, 3)]]
    return ([("x", 0, 1, 0)], [], hands)


def hands_with(many):
    """A tree with so many places and steps behind one another in one hand."""
    return ([("x", 0, 1, 0)], [], [("h", [], [SET] * (many - 1))])


class Refused(unittest.TestCase):
    def check(self, told, *rows):
        self.assertEqual(refusal_of(tree_of(*rows)), told, rows)

    def test_names_twice(self):
        hand = "hand h\nown m 0 1 0\nend"
        for text, name in (
            ("box x 0 1 0\nbox y 0 1 0\nbox x 0 2 0\n" + hand, "x"),
            ("box x 0 1 0\nlock x\n" + hand, "x"),
            ("lock l\nlock l\n" + hand, "l"),
            ("box h 0 1 0\n" + hand, "h"),
            ("lock h\n" + hand, "h"),
            ("lock m\n" + hand, "m"),
            ("box m 0 1 0\n" + hand, "m"),
            (hand + "\nhand h\nend", "h"),
            (hand + "\nhand g\nown m 0 1 0\nend", "m"),
            (hand + "\nhand m\nend", "m"),
            ("hand h\nown m 0 1 0\nown m 0 1 0\nend", "m"),
            ("hand h\nown h 0 1 0\nend", "h"),
            (hand + "\nhand g\nown h 0 1 0\nend", "h"),
        ):
            self.assertEqual(refusal_of(read_program(text)), ("Twice", name), text)

    def test_which_name_is_told(self):
        self.assertEqual(refusal_of(read_program("lock b\nbox b 0 1 0\nlock a\nlock a\nhand b\nend")), ("Twice", "b"))
        text = "box x 0 1 0\nhand a\nown b 0 1 0\nend\nhand b\nown x 0 1 0\nend\nhand a\nend"
        self.assertEqual(refusal_of(read_program(text)), ("Twice", "b"))
        text = "box x 0 1 0\nhand a\nown x 0 1 0\nend\nhand a\nend"
        self.assertEqual(refusal_of(read_program(text)), ("Twice", "x"))

    def test_twice_ahead_of_all_else(self):
        rows = "\n".join(["set q = z"] * 50)
        self.assertEqual(refusal_of(read_program(f"hand h\n{rows}\nend\nhand h\nend")), ("Twice", "h"))

    def test_places(self):
        self.assertEqual(lay_out(hands_with(24))[0][1], [("h", 24)])
        self.assertEqual(refusal_of(hands_with(25)), ("TooMany", 24))
        both = ([("x", 0, 1, 0)], [], [("h", [], [SET] * 11), ("g", [], [SET] * 11)])
        self.assertEqual(lay_out(both)[0][1], [("h", 12), ("g", 12)])
        both[2][1][2].append(SET)
        self.assertEqual(refusal_of(both), ("TooMany", 24))

    def test_steps(self):
        # A way without rows has a place and two steps.
        either = ("either", ([],) * 20)
        self.assertEqual(counted(([], [], [("h", [], [either])])), (22, 40))
        self.assertEqual(len(lay_out(([], [], [("h", [], [either])]))[0][2]), 40)
        more = ([], [], [("h", [], [either]), ("g", [], [])])
        self.assertEqual(counted(more), (24, 41))
        self.assertEqual(refusal_of(more), ("TooMany", 40))

    def test_places_ahead_of_steps_ahead_of_names(self):
        bad = ("wait", ("at", "q", "z"))
        worse = ("set", (("q", (0, ())),))
        many = ("either", ([],) * 30)
        self.assertEqual(refusal_of(([], [], [("h", [], [worse, bad, many])])), ("TooMany", 24))
        most = ("either", ([],) * 20)
        self.assertEqual(refusal_of(([], [], [("h", [], [most, worse])])), ("TooMany", 40))
        self.assertEqual(refusal_of(([], [], [("h", [], [worse, bad])])), ("NoName", "q"))

    def test_boxes_of_sets(self):
        self.check(("NoName", "q"), "set q = 1")
        self.check(("NoName", "l"), "set l = 1")
        self.check(("NoName", "h"), "set h = 1")
        self.check(("NoName", "q"), "set x = q")
        self.check(("NoName", "q"), "set x = x + l, y = 3 * q")
        self.check(("NoName", "q"), "set q = a + z")
        self.check(("NoName", "a"), "set x = z + a")
        self.check(("NoName", "q"), "set x = q, a = 1")
        self.check(("NoName", "b"), "set x = y, b = 1, a = 1")

    def test_boxes_of_remarks(self):
        for word in ("wait", "if", "while", "say"):
            ends = [] if word == "wait" else ["set x = 1"] if word == "say" else ["end"]
            self.check(("NoName", "q"), f"{word} q <= 1", *ends)
            self.check(("NoName", "h"), f"{word} h <= 1", *ends)
            self.check(("NoName", "z"), f"{word} x <= 1 and [not 2 divides z + y or a <= 1]", *ends)
            self.check(("NoName", "a"), f"{word} [at q q or z + a <= 1] and b <= 2", *ends)

    def test_own_boxes_of_another_hand(self):
        head = "box x 0 1 0\nlock l\nhand g\nown m 0 1 0\nend\nhand h\nown n 0 1 0\n"
        for row, told in (
            ("set m = 1", "m"), ("set x = m", "m"), ("wait m <= 1", "m"), ("if m <= 1\nend", "m"),
            ("while x + m <= 1\nend", "m"), ("set n = m, m = n", "m"),
        ):
            self.assertEqual(refusal_of(read_program(head + row + "\nend")), ("NoName", told), row)
        for row in ("set n = n + x + l", "wait n + x + l <= 1", "if n <= 1\nend", "while n <= 1\nend",
                    "say m + n + x + l <= 1", "say m <= 1\nset n = 1"):
            self.assertEqual(len(lay_out(read_program(head + row + "\nend"))), 2, row)
        early = "hand g\nsay n <= 1\nend\nhand h\nown n 0 1 0\nend"
        self.assertEqual(lay_out(read_program(early))[1][("g", 1)], ("most", (-1, (("n", 1),))))

    def test_locks(self):
        self.check(("NoName", "q"), "take q")
        self.check(("NoName", "x"), "take x")
        self.check(("NoName", "q"), "give q")
        self.check(("NoName", "y"), "give y")
        self.check(("NoName", "h"), "give h")

    def test_labels_twice(self):
        self.check(("Twice", "a"), "label a", "label a")
        self.check(("Twice", "a"), "label a", "set x = 1", "label a")
        self.check(("Twice", "a"), "while true", "label a", "set x = 1", "end", "label a")
        self.check(("Twice", "a"), "rounds 2", "label a", "set x = 1", "end")
        self.check(("Twice", "b"), "rounds 2", "set x = 1", "rounds 3", "label b", "set x = 1", "end", "end")
        told = laid("rounds 1", "label a", "set x = 1", "end", "rounds 0", "label a", "set q = 1", "end")
        self.assertEqual(len(told[0][2]), 2)
        two = read_program("hand a\nlabel l\nend\nhand b\nlabel l\nend")
        self.assertEqual(len(lay_out(two)[0][2]), 2)

    def test_the_first_in_order_is_told(self):
        self.check(("NoName", "p"), "label a", "set x = p", "label a")
        self.check(("Twice", "a"), "label a", "label a", "set x = p")
        self.check(("NoName", "q"), "if q <= 1", "set p = 1", "end")
        self.check(("NoName", "q"), "while q <= 1", "set p = 1", "end")
        self.check(("NoName", "p"), "if x <= 1", "set p = 1", "else", "set q = 1", "end")
        self.check(("NoName", "p"), "either", "set p = 1", "or", "set q = 1", "end")
        self.check(("NoName", "q"), "either", "set x = 1", "or", "take q", "end", "set p = 1")
        self.check(("NoName", "p"), "while true", "wait p <= 1", "end", "wait q <= 1")
        self.check(("NoName", "p"), "rounds 2", "label a", "set x = 1", "take p", "end")
        self.check(("Twice", "a"), "rounds 2", "label a", "set x = 1", "end", "take p")
        self.check(("NoName", "p"), "say p <= 1", "say q <= 1", "set x = z")
        two = "hand a\nwait at z z\nset p = 1\nend\nhand b\nset q = 1\nend"
        self.assertEqual(refusal_of(read_program(two)), ("NoName", "p"))

    def test_rounds_of_0_times_are_not_looked_into(self):
        program, annotation = laid("rounds 0", "label a", "label a", "say at z z", "set q = z", "take p", "end")
        self.assertEqual((program[2], len(annotation)), ([("h", 0, TRUE, (), 1)], 2))
        self.check(("NoName", "a"), "rounds 0", "label a", "set x = 1", "end", "wait at h a")

    def test_ats(self):
        self.check(("NoName", "q"), "wait at q a")
        self.check(("NoName", "x"), "wait at x a")
        self.check(("NoName", "a"), "wait at h a")
        self.check(("NoName", "h"), "wait at h h")
        self.check(("NoName", "a"), "say at h a")
        self.check(("NoName", "a"), "if at h a", "end")
        self.check(("NoName", "a"), "while at h a", "end")
        self.check(("NoName", "a"), "label b", "wait x <= 1 and not [at h b or at h a] and at q z")
        self.check(("NoName", "q"), "wait at q a and at h a")
        self.check(("NoName", "b"), "rounds 2", "wait at h b", "say at q z", "set x = 1", "end")

    def test_ats_behind_all_hands(self):
        text = "hand a\nlabel l\nsay at b l\nwait at {}\nend\nhand b\n{}\nlabel l\nsay at a m\nend"
        self.assertEqual(refusal_of(read_program(text.format("b m", "wait at z z"))), ("NoName", "m"))
        self.assertEqual(refusal_of(read_program(text.format("c l", "wait at z z"))), ("NoName", "c"))
        self.assertEqual(refusal_of(read_program(text.format("b l", "wait at z z"))), ("NoName", "z"))
        self.assertEqual(refusal_of(read_program(text.format("b l", "label m"))), ("NoName", "m"))
        self.assertEqual(refusal_of(read_program(text.format("b m", "set q = 1"))), ("NoName", "q"))
        self.assertEqual(refusal_of(read_program(text.format("b m", "label l"))), ("Twice", "l"))


class Kept(unittest.TestCase):
    def test_the_tree_stays_as_it_was(self):
        tree = copy.deepcopy(WHOLE_TREE)
        tree[2][1][2].append(("wait", X1))
        kept = copy.deepcopy(tree)
        counted(tree)
        refusal_of(tree)
        self.assertEqual(tree, kept)
        good = tree_of("label a", "say at h a", "rounds 2", "set y = 1, x = 2", "end", "either", "or", "end")
        kept = copy.deepcopy(good)
        told = lay_out(good)
        self.assertEqual(good, kept)
        self.assertEqual(lay_out(good), told)

    def test_told_is_the_askers_own(self):
        tree = tree_of("label a", "say at h a", "set x = 1")
        first = lay_out(tree)
        kept = copy.deepcopy(first)
        for part in first[0][:3]:
            part.clear()
        first[1].clear()
        self.assertEqual(lay_out(tree), kept)

    def test_what_is_done_to_the_tree_later_changes_nothing(self):
        tree = tree_of("rounds 1", "label a", "set x = 1", "end")
        told = lay_out(tree)
        kept = copy.deepcopy(told)
        tree[2][0][2][0][2].clear()
        for part in tree:
            part.clear()
        self.assertEqual(told, kept)
