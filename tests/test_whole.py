"""The promise over the whole program [1] [2] [3], of seeded texts asked at the desk."""

import collections
import unittest

from calm.court import court_of, shown_by
from calm.desk import tell
from calm.errors import CalmError, NoLock, TooMany
from calm.laying import lay_out
from calm.least import least_stretches, stretch_remarks
from calm.listed import finite_answer
from calm.locks import holding
from calm.papertexts import read_papers
from calm.parting import parted, straight
from calm.reached import breach, reached
from calm.remarks import holds
from calm.stands import book_of, can, done, first_stand, fits, places_of, woven
from calm.trees import read_program
from calm.treetexts import show_program
from tests.samples import small_tree, source_of


def some_texts(seed, many):
    """Texts that are laid out without a refusal."""
    rng = source_of(seed)
    texts = []
    while len(texts) < many:
        text = show_program(small_tree(rng))
        try:
            lay_out(read_program(text))
        except CalmError:
            continue
        texts.append(text)
    return texts


def some_weavings(rng, program, many):
    """Numbers of steps and the stand behind them, by chance."""
    for _ in range(many):
        stand, numbers = first_stand(program), []
        for _ in range(rng.randrange(1, 25)):
            steps = can(program, stand)
            if not steps:
                break
            numbers.append(rng.choice(steps))
            stand = done(program, stand, numbers[-1])
            yield numbers, stand


class Promise(unittest.TestCase):
    def calm_everywhere(self, rng, program, annotation):
        for stand in reached(program, 10 ** 5):
            self.assertEqual(fits(program, annotation, stand), [])
        for numbers, stand in some_weavings(rng, program, 10):
            for (hand, many), place in zip(program[1], stand[0]):
                self.assertTrue(holds(annotation[(hand, place)], book_of(program, stand), places_of(program, stand)))

    def broken_by(self, text, told):
        program, annotation = lay_out(read_program(text))
        hand, colon, numbers = told.partition(":")
        weaving = [int(word) for word in numbers.split()]
        self.assertEqual(tell(text, " ".join(["weave"] + [str(number) for number in weaving])),
                         " ".join(str(number) for part in woven(program, weaving)[-1] for number in part))
        self.assertEqual(fits(program, annotation, woven(program, weaving)[-1])[0], hand)
        # None shorter: every stand that is reached by fewer steps fits.
        behind = [first_stand(program)]
        for _ in weaving:
            for stand in behind:
                self.assertEqual(fits(program, annotation, stand), [])
            behind = list({done(program, stand, number) for stand in behind for number in can(program, stand)})

    def test_the_courts_answers(self):
        rng = source_of(380)
        told = collections.Counter()
        for text in some_texts(381, 200):
            program, annotation = lay_out(read_program(text))
            answer = tell(text, "court 1000000 2000")
            word = answer.partition("\n")[0].partition(" ")[0]
            told[word] += 1
            if word == "shown":
                papers = answer.partition("\n")[2]
                self.assertLess(papers.count("\n"), 5000)
                self.assertEqual(tell(text, "check " + papers), "yes")
                self.assertTrue(shown_by(program, annotation, read_papers(papers)))
                self.calm_everywhere(rng, program, annotation)
                self.assertEqual(tell(text, "breach 2000"), "none")
            elif word == "broken":
                self.assertEqual(answer, "broken " + tell(text, "breach 2000"))
                self.broken_by(text, answer.partition(" ")[2])
            else:
                self.assertEqual(answer.partition(" ")[2].partition(" ")[0], "enough")
                self.assertTrue(answer.endswith(" all"))
                self.assertIsNone(breach(program, annotation, 10 ** 5))
        self.assertGreater(min(told["shown"], told["broken"]), 30)
        self.assertGreater(told["not"], 5)
        self.assertEqual(len(told), 3)

    def test_finite_answers(self):
        rng = source_of(382)
        told = collections.Counter()
        for text in some_texts(383, 200):
            program, annotation = lay_out(read_program(text))
            most = rng.choice((4, 12))
            try:
                answer = tell(text, "finite %d" % most)
            except TooMany as refusal:
                self.assertEqual(refusal.most, most)
                told["refused"] += 1
                continue
            word = answer.partition("\n")[0].partition(" ")[0]
            told[word] += 1
            if word == "broken":
                self.broken_by(text, answer.partition(" ")[2])
                continue
            listed = finite_answer(program, annotation, most)[1]
            papers = answer.partition("\n")[2]
            self.assertLess(papers.count("\n"), 5000)
            self.assertTrue(shown_by(program, listed, read_papers(papers)))
            self.calm_everywhere(rng, program, listed)
            # What the court can't show of the remarks alone is shown of these.
            self.assertEqual(court_of(program, listed, 10 ** 6, 12)[0], "shown")
        self.assertGreater(min(told["shown"], told["broken"], told["refused"]), 15)

    def test_least_stretches(self):
        rng = source_of(384)
        for text in some_texts(385, 60):
            program, annotation = lay_out(read_program(text))
            table = least_stretches(program, 1000, 10 ** 6)
            remarks = stretch_remarks(program, table)
            self.assertEqual(court_of(program, remarks, 10 ** 6, 1)[0], "shown")
            self.calm_everywhere(rng, program, remarks)
            rows = tell(text, "least 1000 1000000").split("\n")
            self.assertEqual(len(rows), len(table))
            for row, ((hand, place), pairs) in zip(rows, table.items()):
                words = ["none"] if pairs is None else ["%d..%d" % pair for pair in pairs]
                self.assertEqual(row, " ".join(["%s %d:" % (hand, place)] + words))

    def test_parted_steps_and_straightened_weavings(self):
        rng = source_of(386)
        changed = 0
        for text in some_texts(387, 60):
            program = lay_out(read_program(text))[0]
            for numbers, stand in some_weavings(rng, program, 3):
                told = tell(text, " ".join(["straight"] + [str(number) for number in numbers]))
                other = [int(word) for word in told.split()]
                self.assertEqual(other, straight(program, numbers))
                self.assertEqual(woven(program, other)[-1], stand)
                for place in range(len(numbers) - 1):
                    if parted(program, numbers[place], numbers[place + 1]):
                        turned = numbers[:place] + [numbers[place + 1], numbers[place]] + numbers[place + 2:]
                        self.assertEqual(straight(program, turned), other)
                        changed += 1
        self.assertGreater(changed, 100)

    def test_hands_that_hold_one_lock(self):
        held = 0
        for text in some_texts(388, 300):
            program = lay_out(read_program(text))[0]
            try:
                told = holding(program)
            except NoLock:
                continue
            for stand in reached(program, 10 ** 5):
                book = book_of(program, stand)
                taken = [lock for hand, place in places_of(program, stand).items() for lock in told[(hand, place)]]
                self.assertEqual(len(taken), len(set(taken)))
                held += len(taken)
                for number, (hand, place) in enumerate(places_of(program, stand).items()):
                    for lock in told[(hand, place)]:
                        self.assertEqual(book[lock], number + 1)
        self.assertGreater(held, 20)

    def test_texts_are_read_back(self):
        for text in some_texts(389, 60):
            self.assertEqual(show_program(read_program(text)), text)


if __name__ == "__main__":
    unittest.main()
