import copy
import unittest

from calm.errors import NoLock
from calm.laying import counted, lay_out
from calm.locks import holding
from calm.reached import reached
from calm.trees import read_program
from tests.samples import source_of

TRUE = ("and", ())


def program_of(*hands):
    """A program of locks k, l and a box x, its hands a, b, .. with these rows."""
    rows = ["lock l", "lock k", "box x 0 3 0"]
    for name, body in zip("abcd", hands):
        rows += [f"hand {name}", *body, "end"]
    return lay_out(read_program("\n".join(rows)))[0]


def told(*hands):
    try:
        return holding(program_of(*hands))
    except NoLock as refused:
        return refused.step


def take(hand, start, lock, end, number=1):
    return (hand, start, ("most", (0, ((lock, 1),))), ((lock, (number, ())),), end)


def give(hand, start, lock, end):
    return (hand, start, TRUE, ((lock, (0, ())),), end)


def go(hand, start, end):
    return (hand, start, TRUE, (), end)


def held_in(places, *steps, more=()):
    program = ([(lock, "", 0, 2, 0) for lock in "kl"], [("a", places), *more], list(steps), ("k", "l"))
    try:
        return holding(program)
    except NoLock as refused:
        return refused.step


def of_a(*held):
    return {("a", place): locks for place, locks in enumerate(held)}


class Holding(unittest.TestCase):
    def test_none_at_the_begin(self):
        self.assertEqual(told([]), of_a((), ()))
        self.assertEqual(told(["set x = 1", "wait x <= 1"]), of_a((), (), ()))

    def test_takes_and_gives(self):
        self.assertEqual(told(["take l", "set x = 1", "give l"]), of_a((), (), ("l",), ("l",)))
        self.assertEqual(told(["take l"]), of_a((), ("l",)))

    def test_two_locks_sorted(self):
        self.assertEqual(told(["take l", "take k", "give l", "give k"]),
                         of_a((), (), ("l",), ("k", "l"), ("k",)))
        self.assertEqual(told(["take k", "take l"]), of_a((), ("k", "l"), ("k",)))

    def test_loops_and_ways(self):
        rows = ["while x <= 2", "take l", "either", "set x = 1", "or", "end", "give l", "end"]
        self.assertEqual(told(rows), of_a((), (), (), ("l",), ("l",), ("l",), ("l",)))
        rows = ["if x <= 1", "take l", "give l", "else", "take k", "give k", "end"]
        self.assertEqual(told(rows), of_a((), (), (), (), ("l",), ("k",)))

    def test_each_hand_by_itself(self):
        program = program_of(["take l"], ["take k", "give k"], ["take l", "take k"])
        self.assertEqual(holding(program), {
            ("a", 0): (), ("a", 1): ("l",),
            ("b", 0): (), ("b", 1): (), ("b", 2): ("k",),
            ("c", 0): (), ("c", 1): ("k", "l"), ("c", 2): ("l",),
        })

    def test_places_that_are_not_come_to(self):
        self.assertEqual(held_in(4, go("a", 0, 2), go("a", 3, 1)), of_a((), None, (), None))
        self.assertEqual(held_in(1), of_a(()))
        self.assertEqual(held_in(2), of_a((), None))
        # What stands at such places is not looked at.
        self.assertEqual(held_in(3, give("a", 1, "l", 1), take("a", 1, "l", 0)), of_a((), None, None))

    def test_guards_are_not_asked(self):
        self.assertEqual(told(["wait false", "take l"]), of_a((), ("l",), ()))

    def test_boxes_that_are_no_locks(self):
        self.assertEqual(told(["set x = 1", "set x = 2", "set x = 0", "set x = 0"]), of_a((), (), (), (), ()))


class Refused(unittest.TestCase):
    def test_taken_twice(self):
        self.assertEqual(told(["take l", "take l"]), 1)
        self.assertEqual(told(["take l", "take k", "set x = 1", "take k"]), 3)

    def test_given_without_being_held(self):
        self.assertEqual(told(["give l"]), 0)
        self.assertEqual(told(["take k", "give l"]), 1)
        self.assertEqual(told(["take l", "give l", "give l"]), 2)

    def test_a_place_come_to_with_unlike_locks(self):
        self.assertEqual(told(["if x <= 1", "take l", "end", "set x = 1"]), 2)
        self.assertEqual(told(["while x <= 1", "take l", "end"]), 2)
        self.assertEqual(told(["either", "take l", "or", "take k", "end"]), 3)
        self.assertEqual(held_in(2, take("a", 0, "l", 1), go("a", 0, 1)), 1)
        self.assertEqual(held_in(2, take("a", 0, "l", 0)), 0)

    def test_the_first_met_is_told(self):
        # Place 2 is come to ahead of place 1, so its step is met first, though its number is greater.
        steps = [give("a", 1, "l", 1), go("a", 0, 2), go("a", 0, 1), give("a", 2, "k", 1)]
        self.assertEqual(held_in(3, *steps), 3)
        steps[1], steps[2] = steps[2], steps[1]
        self.assertEqual(held_in(3, *steps), 0)
        # Of one place by rising number.
        self.assertEqual(held_in(2, go("a", 0, 1), give("a", 1, "l", 1), give("a", 1, "k", 1)), 1)
        # Place by place, not way by way: the step of 2 is met ahead of the one of 3, behind 1.
        steps = [go("a", 0, 1), go("a", 0, 2), go("a", 1, 3), give("a", 3, "l", 3), give("a", 2, "k", 2)]
        self.assertEqual(held_in(4, *steps), 4)

    def test_hands_in_their_order(self):
        bad = [give("a", 0, "l", 0), give("b", 0, "l", 0)]
        self.assertEqual(held_in(1, *bad, more=[("b", 1)]), 0)
        self.assertEqual(held_in(1, *bad[::-1], more=[("b", 1)]), 1)
        self.assertEqual(held_in(1, bad[1], more=[("b", 1)]), 0)


def some_rows(rng, deep):
    rows = []
    for _ in range(rng.randrange(1, 4)):
        word = rng.choice(("lock", "lock", "move", "if", "while", "either") if deep else ("lock", "move"))
        inner = [some_rows(rng, deep - 1) for _ in range(2)] if word in ("if", "while", "either") else []
        if word == "lock":
            lock = rng.choice("lk")
            rows += [f"take {lock}", *(some_rows(rng, 0) if rng.random() < 0.3 else []), f"give {lock}"]
        elif word == "move":
            rows.append(rng.choice(("set x = x + 1", "wait x <= 2", "set x = 0", "take l", "give l")))
        elif word == "if":
            rows += ["if x <= 1", *inner[0], "else", *inner[1], "end"]
        elif word == "while":
            rows += ["while x <= 1", *inner[0], "end"]
        else:
            rows += ["either", *inner[0], "or", *inner[1], "end"]
    return rows


class Law(unittest.TestCase):
    def test_no_two_hands_hold_one_lock(self):
        rng = source_of(60)
        shown = refused = 0
        while shown < 40:
            hands = [some_rows(rng, 1) for _ in range(rng.randrange(2, 4))]
            text = "lock l\nlock k\nbox x 0 3 0\n" + "\n".join(
                "\n".join([f"hand {name}", *rows, "end"]) for name, rows in zip("abc", hands))
            counts = counted(read_program(text))
            if counts[0] > 24 or counts[1] > 40:
                continue
            held = told(*hands)
            if isinstance(held, int):
                refused += 1
                continue
            shown += any(held.values())
            self.check_stands(program_of(*hands), held)
        self.assertGreater(refused, 10)

    def check_stands(self, program, held):
        names = [box[0] for box in program[0]]
        hands = [hand[0] for hand in program[1]]
        for places, values in reached(program, 10 ** 5):
            book = dict(zip(names, values))
            locks = []
            for number, there in enumerate(zip(hands, places), 1):
                self.assertIsNotNone(held[there])
                self.assertTrue(all(book[lock] == number for lock in held[there]))
                locks.extend(held[there])
            self.assertEqual(len(set(locks)), len(locks))


class Kept(unittest.TestCase):
    def test_what_is_handed_in_stays_and_what_is_told_is_new(self):
        program = program_of(["take l", "give l"], ["take k"])
        kept = copy.deepcopy(program)
        first = holding(program)
        second = copy.deepcopy(first)
        self.assertEqual(program, kept)
        first.clear()
        self.assertEqual(holding(program), second)
