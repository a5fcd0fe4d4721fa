import unittest

from calm.court import court_of
from calm.desk import tell, tell_locks
from calm.errors import CalmError, NoLock, NoName, NoStep, NoText, TooMany, Twice
from calm.laying import lay_out
from calm.listed import finite_answer
from calm.papertexts import show_papers
from calm.trees import read_program

# Two hands; p's steps: 0 take, 1 set, 2 give; q's: 3 set, 4 wait.
TEXT = """box x 0 3 0
box y -2 2 1
lock l
hand p
take l
say l = 1
set x = x + 1
say l = 1
give l
say true
end
hand q
set y = y - 1
wait x >= 1
say x >= 1
end"""

BROKEN = "box x 0 9 0\nhand p\nset x = x + 1\nset x = x + 1\nsay x <= 1\nend\nhand q\nend"
WEAK = "box x 0 3 0\nbox y 0 1 0\nhand p\nwhile x < 3\nset x = x + 1\nsay y <= 0\nwait true\nend\nend"
LONE = "hand p\nend"


class Case(unittest.TestCase):
    def refused(self, text, question, kind, field, told):
        with self.assertRaises(kind, msg=question[:80]) as caught:
            tell(text, question)
        self.assertEqual(type(caught.exception), kind)
        self.assertEqual(getattr(caught.exception, field), told, question[:80])

    def none(self, question, text=TEXT):
        self.refused(text, question, NoText, "row", 0)


class Answers(Case):
    def test_places(self):
        self.assertEqual(tell(TEXT, "places"), "p 4, q 3")
        self.assertEqual(tell(LONE, "places"), "p 2")

    def test_breach(self):
        self.assertEqual(tell(BROKEN, "breach 100"), "p: 0 1")
        self.assertEqual(tell(TEXT, "breach 1000000"), "none")
        self.assertEqual(tell("hand p\nend\nhand q\nsay false\nwait true\nend", "breach 1"), "q:")
        self.refused(TEXT, "breach 3", TooMany, "most", 3)

    def test_court_shown(self):
        answer = tell(TEXT, "court 1000000 100")
        program, annotation = lay_out(read_program(TEXT))
        self.assertEqual(answer, "shown\n" + show_papers(court_of(program, annotation, 1000000, 100)[1]))
        self.assertEqual(answer.split("\n")[:2], ["shown", "start p"])
        self.assertEqual(tell(TEXT, "check " + answer[len("shown\n"):]), "yes")

    def test_court_broken(self):
        self.assertEqual(tell(BROKEN, "court 1000000 100"), "broken p: 0 1")
        self.assertEqual(tell("hand p\nsay false\nwait true\nend", "court 1000 1"), "broken p:")

    def test_court_not_enough(self):
        program, annotation = lay_out(read_program(WEAK))
        for most, behind in ((1000, " all"), (3, "")):
            told = court_of(program, annotation, 1000000, most)
            self.assertEqual(told[1], ("own", 2))
            numbers = " ".join(map(str, told[2][0] + told[2][1]))
            self.assertEqual(tell(WEAK, "court 1000000 %d" % most), "not enough own 2: " + numbers + behind)

    def test_court_not_enough_of_each_duty(self):
        text = "box x 0 1 0\nhand p\nsay x <= 0\nwait true\nend\nhand q\nwait false\nset x = 1\nend"
        self.assertEqual(tell(text, "court 1000000 100"), "not enough other 2 p 0: 0 2 0 all")
        text = "box x 0 1 0\nhand p\nwait x >= 1\nsay x <= 0\nend"
        self.assertEqual(tell(text, "court 1000000 100"), "not enough own 0: 0 1 all")

    def test_court_refused(self):
        wide = 10 ** 30
        text = ("box x 0 W 0\nbox y 0 W 0\nhand p\nwhile true\neither\nset x = x + 1\nor\nset y = y + 1\nend\n"
                "say 3 * x - 3 * y <= 0 or 3 * x - 3 * y >= 3\nwait true\nend\nend").replace("W", str(wide))
        self.refused(text, "court 1234 30", TooMany, "most", 1234)

    def test_check(self):
        papers = tell(TEXT, "court 1000000 100")[len("shown\n"):]
        self.assertEqual(tell(TEXT, "check " + papers), "yes")
        for odd in ("", " ", papers + "\n", "\n" + papers, " " + papers, papers.replace("start p", "start q"),
                    papers.replace("own 1\n", "own 2\n"), papers[:-1], "no", "yes", "start p", papers + "\nown 0\nsum",
                    "start p\nor 0 0", papers.rpartition("\n")[0], papers.partition("\n")[2]):
            self.assertEqual(tell(TEXT, "check " + odd), "no", odd[:40])
        self.assertEqual(tell(BROKEN, "check " + papers), "no")

    def test_check_of_two_duties(self):
        # A true remark's against form is the false one, the first or of the forms.
        self.assertEqual(tell(LONE, "check start p\nor 0 0\nown 0\nor 0 0"), "yes")
        self.assertEqual(tell(LONE, "check start p\nor 0 0"), "no")
        self.assertEqual(tell(LONE, "check start p\nor 0 0\nown 0\nor 1 0"), "no")
        self.assertEqual(tell(LONE, "check own 0\nor 0 0\nstart p\nor 0 0"), "no")

    def test_least(self):
        self.assertEqual(tell(TEXT, "least 50 1000000"), "\n".join((
            "p 0: 0..0 0..1 0..0", "p 1: 1..1 0..1 0..0", "p 2: 0..0 0..1 1..1", "p 3: 1..1 0..1 1..1",
            "q 0: 0..1 1..1 0..1", "q 1: 1..1 0..0 0..1", "q 2: 0..1 0..0 0..1")))
        self.assertEqual(tell("box x 0 9 3\nhand p\nwait x <= 2\nend", "least 0 1"), "p 0: 3..3\np 1: none")
        self.assertEqual(tell("hand p\nwait false\nend", "least 0 1"), "p 0:\np 1: none")
        self.refused(TEXT, "least 0 1000000", TooMany, "most", 0)
        text = ("box x 0 W 0\nbox y 0 W 0\nhand p\neither\nset x = 0 , y = 0\nor\nset x = V , y = V\nend\n"
                "wait 3 * x - 3 * y >= 1 and 3 * x - 3 * y <= 2\nend").replace("W", "1" + "0" * 30)
        self.refused(text.replace("V", "999999999"), "least 9 77", TooMany, "most", 77)
        self.refused("box x 0 9 0\nhand p\nwhile x < 2\nset x = x + 1\nend\nend", "least 2 1000000", TooMany, "most", 2)
        self.assertEqual(tell("box x -9 9 -3\nhand p\nset x = x - 1\nend", "least 1 1000"), "p 0: -3..-3\np 1: -4..-4")

    def test_finite(self):
        program, annotation = lay_out(read_program(WEAK))
        answer = tell(WEAK, "finite 12")
        self.assertEqual(answer, "shown\n" + show_papers(finite_answer(program, annotation, 12)[2]))
        self.assertEqual(tell(BROKEN, "finite 12"), "broken p: 0 1")
        self.assertEqual(tell("hand p\nsay false\nwait true\nend", "finite 1"), "broken p:")
        self.refused(TEXT, "finite 3", TooMany, "most", 3)

    def test_check_of_finite_where_the_stands_are_said(self):
        # The reached stands put in as remarks, ahead of what was said: so the finite answer's papers show it.
        text = "box x 0 9 4\nhand p\nset x = x + 1\nsay x <= 5\nend"
        said = ("box x 0 9 4\nhand p\nsay x <= 4 and 0 - x <= 0 - 4\nsay true\nset x = x + 1\n"
                "say x <= 5 and 0 - x <= 0 - 5\nsay x <= 5\nend")
        papers = tell(text, "finite 12")[len("shown\n"):]
        self.assertEqual(tell(said, "check " + papers), "yes")
        self.assertEqual(tell(text, "check " + papers), "no")

    def test_weave(self):
        self.assertEqual(tell(TEXT, "weave"), "0 0 0 1 0")
        self.assertEqual(tell(TEXT, "weave 0"), "2 0 0 1 1")
        self.assertEqual(tell(TEXT, "weave 3 0 1 4"), "3 1 1 0 1")
        self.assertEqual(tell(LONE, "weave"), "0")
        self.refused(TEXT, "weave 1", NoStep, "place", 0)
        self.refused(TEXT, "weave 0 1 2 2", NoStep, "place", 3)
        self.refused(TEXT, "weave 0 5", NoStep, "place", 1)
        self.refused(TEXT, "weave 1000000", NoStep, "place", 0)
        self.refused(TEXT, "weave 3 4", NoStep, "place", 1)

    def test_straight(self):
        self.assertEqual(tell(TEXT, "straight"), "")
        self.assertEqual(tell(TEXT, "straight 3 0 1 4 2"), "0 1 2 3 4")
        self.assertEqual(tell(TEXT, "straight 4 1"), "4 1")
        self.assertEqual(tell(TEXT, "straight 3 3"), "3 3")
        self.refused(TEXT, "straight 5", NoStep, "place", 0)
        self.refused(TEXT, "straight 3 0 1000000 7", NoStep, "place", 2)

    def test_locks(self):
        self.assertEqual(tell(TEXT, "locks"), "p 0:\np 1:\np 2: l\np 3: l\nq 0:\nq 1:\nq 2:")
        text = "lock a\nlock b\nhand p\ntake b\ntake a\nwait true\ngive b\ngive a\nend\nhand q\nwhile true\nwait true\nend\nend"
        self.assertEqual(tell(text, "locks"), "p 0:\np 1:\np 2: b\np 3: a b\np 4: a b\np 5: a\nq 0:\nq 1:\nq 2:")
        self.refused("lock a\nhand p\ngive a\nend", "locks", NoLock, "step", 0)
        self.refused("lock a\nhand p\nend\nhand q\ntake a\ntake a\nend", "locks", NoLock, "step", 2)

    def test_locks_of_a_place_that_no_step_leads_to(self):
        # No text has such a place; the program is handed to what tells the locks.
        program = ([("a", "", 0, 1, 0)], [("p", 3)], [("p", 0, ("and", ()), (("a", (1, ())),), 2)], ("a",))
        self.assertEqual(tell_locks(program), "p 0:\np 1: -\np 2: a")

    def test_asked_again(self):
        for question in ("places", "court 1000 100", "least 50 1000", "finite 99", "locks", "straight 3 0"):
            self.assertEqual(tell(TEXT, question), tell(TEXT, question))


class Questions(Case):
    def test_what_is_none(self):
        for question in (
            "", " ", "place", "Places", "places ", " places", "places 1", "places\n", "breach", "breach ", "breach 0",
            "breach -1", "breach 01", "breach 1000001", "breach x", "breach 1 1", "breach  1", "breach 1 ", " breach 1",
            "breach +1", "breach 1.0", "breach 1\n", "court", "court 1", "court 1 ", "court  1 1", "court 1  1",
            "court 1 1 1", "court 0 1", "court 1 0", "court 1000001 1", "court 1 1000001", "court a 1", "court 1,1",
            "check", "checks", "Check ", "least", "least 1", "least 1 1 1", "least 1001 1", "least 1 0",
            "least 1 1000001", "least -1 1", "least 00 1", "least  1 1", "finite", "finite 0", "finite 1000001",
            "finite 1 1", "finite -1", "finite  1", "finite 1 ", "weave ", "weave  0", "weave 0 ", "weave 0  1",
            "weave -1", "weave 1000001", "weave 00", "weave x", "weave 0,1", "weave 0\n1", "straight ", "straight -1",
            "straight 1000001", "straight 01", "straight  1", "straight 1 ", "straight a", "locks ", "locks 1", "lock",
            "none", "tell", "weave" + " 0" * 3 + " 1" * 0 + " 99999999999999999999", "breach " + "9" * 5000,
            "not enough", "shown", "weave\t0", "places,", "what 1", "what 1 1", "leas 1 1", "Court 1 1", "what",
        ):
            self.none(question)

    def test_bounds_themselves(self):
        self.assertEqual(tell(LONE, "breach 1000000"), "none")
        self.assertEqual(tell(LONE, "breach 2"), "none")
        self.assertTrue(tell(LONE, "court 1000000 1000000").startswith("shown\n"))
        for question in ("court 1 1", "court 1 1000000", "court 1000000 1"):
            try:
                self.assertTrue(tell(LONE, question).startswith("shown\n"))
            except TooMany as refusal:
                self.assertEqual(refusal.most, 1)
        self.assertEqual(tell(LONE, "least 1000 1000000"), "p 0:\np 1:")
        self.assertTrue(tell(LONE, "finite 1000000").startswith("shown\n"))

    def test_what_the_text_is_refused_for_comes_first(self):
        for question in ("", "places", "court 0 0", "weave 99", "check", "check x"):
            self.refused("hand p", question, NoText, "row", 2)
            self.refused("what\n" + TEXT, question, NoText, "row", 1)
            self.refused("", question, NoText, "row", 2)
            self.refused("box x 0 1 0\nbox x 0 1 0\nhand p\nend", question, Twice, "name", "x")
            self.refused("hand p\nset x = 1\nend", question, NoName, "name", "x")
            self.refused("hand p\nwait at q here\nend", question, NoName, "name", "q")
            rows = "\n".join(["wait true"] * 24)
            self.refused("hand p\n" + rows + "\nend", question, TooMany, "most", 24)

    def test_a_question_ahead_of_its_answer(self):
        # What would be refused by the answer is refused as a question first.
        self.none("locks 1", "lock a\nhand p\ngive a\nend")
        self.none("weave 99 x")
        self.none("straight 99 x")
        self.none("breach 1 x")
        self.assertTrue(issubclass(NoText, CalmError))


if __name__ == "__main__":
    unittest.main()
