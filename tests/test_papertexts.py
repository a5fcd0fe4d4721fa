import copy
import unittest

from calm.court import court_of
from calm.errors import NoText
from calm.papertexts import read_papers, show_papers
from tests.samples import small_annotation, small_program, source_of

LEAF = ("sum", ((0, 1),))


def deep_paper(many):
    paper = LEAF
    for _ in range(many - 1):
        paper = ("or", 0, (paper,))
    return paper


def some_paper(rng, deep):
    kind = rng.choice(("sum", "rest", "or", "cut") if deep else ("sum", "rest"))
    great = rng.choice((3, 10 ** 12, 10 ** 399))
    if kind == "sum":
        return ("sum", tuple((rng.randrange(40), rng.randrange(1, great)) for _ in range(rng.randrange(4))))
    if kind == "rest":
        rows = []
        for _ in range(rng.randrange(4)):
            times = rng.choice((-1, 1)) * rng.randrange(1, great)
            rows.append(tuple(rng.randrange(99) for _ in range(rng.randrange(1, 3))) + (times,))
        return ("rest", rng.randrange(2, great), tuple(rows))
    if kind == "or":
        return ("or", rng.randrange(9), tuple(some_paper(rng, deep - 1) for _ in range(rng.randrange(4))))
    box = rng.choice(("x", "@h", "a1234567", "@zzzzzzzz"))
    return ("cut", box, rng.randrange(-great, great), some_paper(rng, deep - 1), some_paper(rng, deep - 1))


def some_duty(rng):
    return rng.choice((("start", rng.choice(("p", "hand1"))), ("own", rng.choice((0, 7, 39))),
                       ("other", rng.randrange(40), rng.choice(("q", "a2")), rng.randrange(24))))


class Case(unittest.TestCase):
    def refused(self, text, row):
        with self.assertRaises(NoText, msg=text[:200]) as caught:
            read_papers(text)
        self.assertEqual(caught.exception.row, row, text[:200])

    def round_trip(self, papers, text):
        self.assertEqual(show_papers(papers), text)
        self.assertEqual(read_papers(text), papers)


class Written(Case):
    def test_each_kind(self):
        self.round_trip([], "")
        self.round_trip([(("start", "p"), ("sum", ((0, 1), (12, 30))))], "start p\nsum 0*1 12*30")
        self.round_trip([(("own", 0), ("rest", 12, ((3, -1), (4, 5, 2), (0, 1, -7))))], "own 0\nrest 12 3*-1 4,5*2 0,1*-7")
        self.round_trip([(("other", 39, "q2", 0), ("or", 3, ()))], "other 39 q2 0\nor 3 0")
        self.round_trip([(("own", 7), ("sum", ()))], "own 7\nsum")
        self.round_trip([(("own", 7), ("rest", 2, ()))], "own 7\nrest 2")

    def test_papers_within(self):
        paper = ("cut", "@h", -3, ("or", 1, (LEAF, ("cut", "x", 0, LEAF, LEAF), ("or", 0, ()))), ("rest", 2, ((0, 1),)))
        self.round_trip([(("own", 1), paper), (("own", 2), LEAF)], "\n".join((
            "own 1", "cut @h -3", "or 1 3", "sum 0*1", "cut x 0", "sum 0*1", "sum 0*1", "or 0 0", "rest 2 0*1", "own 2",
            "sum 0*1")))

    def test_seeded(self):
        rng = source_of(370)
        for _ in range(300):
            papers = [(some_duty(rng), some_paper(rng, rng.randrange(4))) for _ in range(rng.randrange(4))]
            before = copy.deepcopy(papers)
            text = show_papers(papers)
            self.assertEqual(read_papers(text), papers)
            self.assertEqual(papers, before)
            self.assertEqual(show_papers(read_papers(text)), text)

    def test_the_courts_papers(self):
        rng = source_of(371)
        shown = 0
        for _ in range(60):
            program = small_program(rng)
            answer = court_of(program, small_annotation(rng, program), 10 ** 6, 10)
            if answer[0] == "shown" and show_papers(answer[1]).count("\n") < 5000:
                shown += 1
                self.assertEqual(read_papers(show_papers(answer[1])), answer[1])
        self.assertGreater(shown, 10)

    def test_told_anew(self):
        first = read_papers("own 1\nsum")
        first.clear()
        self.assertEqual(read_papers("own 1\nsum"), [(("own", 1), ("sum", ()))])


class Bounds(Case):
    def test_rows(self):
        papers = [(("own", number), LEAF) for number in range(2500)]
        self.assertEqual(read_papers(show_papers(papers)), papers)
        self.refused(show_papers(papers) + "\nown 0", 5001)
        self.refused(show_papers(papers) + "\nown 0\nsum", 5001)
        self.refused(show_papers(papers) + "\n", 5001)
        self.refused(show_papers(papers + papers), 5001)
        papers[-1] = (("own", 0), ("or", 0, (LEAF,)))
        self.refused(show_papers(papers), 5001)
        self.refused(show_papers(papers).replace("own 7\n", "own 07\n") + "\nsum", 15)

    def test_deep(self):
        papers = [(("own", 0), deep_paper(90))]
        self.assertEqual(read_papers(show_papers(papers)), papers)
        self.refused(show_papers([(("own", 0), deep_paper(91))]), 92)
        self.refused(show_papers([(("own", 0), deep_paper(99))]), 92)
        self.refused(show_papers([(("own", 0), LEAF), (("own", 1), deep_paper(91))]), 94)
        # Many papers side by side are not deep.
        wide = ("or", 0, tuple([LEAF] * 200))
        self.round_trip([(("own", 0), wide)], "own 0\nor 0 200" + "\nsum 0*1" * 200)
        inner = ("cut", "x", 0, deep_paper(89), deep_paper(89))
        self.assertEqual(read_papers(show_papers([(("own", 0), inner)])), [(("own", 0), inner)])
        self.refused(show_papers([(("own", 0), ("cut", "x", 0, deep_paper(89), deep_paper(90)))]), 2 + 89 + 90)

    def test_figures(self):
        for word in ("own %s\nsum", "own 0\ncut x %s\nsum\nsum", "own 0\ncut x -%s\nsum\nsum", "own 0\nsum 0*%s",
                     "own 0\nrest %s", "own 0\nrest 2 0*-%s", "own 0\nsum %s*1"):
            row = 2 if word.startswith("own 0") else 1
            text = word % ("9" * 400)
            self.assertEqual(show_papers(read_papers(text)), text)
            self.refused(word % ("1" + "0" * 400), row)
            self.refused(word % ("9" * 5000), row)


class Refused(Case):
    def test_duties(self):
        for row in ("", " ", "start", "start p q", "start P", "start p ", " start p", "start  p", "start @p", "start if",
                    "start 1p", "start abcdefghi", "Start p", "start p\t", "own", "own -1", "own 01", "own 1 2", "own x",
                    "own +1", "own 1.0", "own -0", "own  1", "own 1 ", "other", "other 1 q", "other 1 q 2 3",
                    "other q 1 2", "other 1 end 2", "other 01 q 2", "other 1 q 02", "other 1 q -2", "other -1 q 2",
                    "other 1  q 2", "sum", "or 0 0", "starts p", "owner 1", "what", "own 1,", "start p:"):
            text = row + "\nsum"
            self.refused(text, 1)
            self.refused("own 0\nsum\n" + text, 3)

    def test_papers(self):
        for row in ("", " ", "or", "or 0", "or 0 ", "or 0 0 0", "or 00 0", "or 0 00", "or -1 0", "or 0 -1", "or x 0",
                    "or  0 0", " or 0 0", "or 0 0 ", "or 0,0 0", "cut", "cut x", "cut x ", "cut x 0 0", "cut x +1",
                    "cut x -0", "cut x 01", "cut x -01", "cut x - 1", "cut x --1", "cut @ 0", "cut @@h 0", "cut h@ 0",
                    "cut x@ 0", "cut X 0", "cut set 0", "cut @set 0", "cut 1x 0", "cut abcdefghi 0", "cut  x 0",
                    "sum ", "sum  0*1", "sum 0*1 ", "sum 0", "sum 0*", "sum *1", "sum 0*0", "sum 0*-1", "sum -1*1",
                    "sum 0*1*1", "sum 0 * 1", "sum 0,1*1", "sum 00*1", "sum 0*01", "sum 0*1,", "sum 0*1,1*1",
                    "rest", "rest ", "rest 0", "rest 1", "rest -2", "rest 02", "rest x", "rest 2 ", "rest 2  0*1",
                    "rest 2 0*0", "rest 2 0,1*0", "rest 2 0*-0", "rest 2 0*+1", "rest 2 0,1,2*1", "rest 2 ,1*1",
                    "rest 2 0,*1", "rest 2 0, 1*1", "rest 2 -1*1", "rest 2 0,-1*1", "rest 2 0*1*1", "rest 2 0", "rest 2 *1",
                    "rest 2 0*01", "rest 2 0*-01", "rest 2 0*--1", "rest 2 00*1", "rest 0*1", "Sum", "own 1", "start p",
                    "what", "sums", "or\t0 0"):
            self.refused("own 0\n" + row, 2)
            self.refused("own 0\ncut x 0\nsum\n" + row + "\nown 1\nsum", 4)

    def test_rows_that_are_not_needed_any_more(self):
        self.refused("own 0\nsum\nsum", 3)
        self.refused("own 0\nsum\n", 3)
        self.refused("own 0\nor 0 1\nsum\nsum", 4)
        self.refused("own 0\nor 0 0\nsum\nown 1\nsum", 3)
        self.refused("own 0\ncut x 1\nsum\nsum\nor 0 0", 5)
        self.refused("own 0\nsum\n\nown 1\nsum", 3)

    def test_a_text_that_ends_too_early(self):
        self.refused("own 0", 2)
        self.refused("own 0\ncut x 1\nsum", 4)
        self.refused("own 0\nor 0 2\nsum", 4)
        self.refused("own 0\nor 0 2", 3)
        self.refused("own 0\nor 0 %s\nsum" % ("9" * 400), 4)
        self.refused("own 0\nsum\nown 1", 4)
        self.refused("\n", 1)
        self.refused("own 0\n", 2)

    def test_the_first_row_that_is_none(self):
        self.refused("own 0\nor 0 2\nsum x\nsum y", 3)
        self.refused("own x\nsum y", 1)


if __name__ == "__main__":
    unittest.main()
