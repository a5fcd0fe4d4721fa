import unittest

from calm.errors import NoText
from calm.tokens import KEY_WORDS, Reader, is_name, is_number, tokens_of


class Tokens(unittest.TestCase):
    def test_a_word_is_a_longest_run(self):
        self.assertEqual(tokens_of("3x x3 notx 2divides 12", 1), ["3x", "x3", "notx", "2divides", "12"])

    def test_signs(self):
        told = ["<=", ">=", "<", ">=", "=", "<", "<=", "[", "]", ",", "+", "-", "*", ">"]
        self.assertEqual(tokens_of("<=>=<>==<<=[],+-*>", 1), told)

    def test_a_blank_parts_the_two_halves_of_a_sign(self):
        self.assertEqual(tokens_of("< = > =", 1), ["<", "=", ">", "="])

    def test_blanks_part_words_and_vanish(self):
        self.assertEqual(tokens_of("  a  b+ 1 ", 1), ["a", "b", "+", "1"])
        self.assertEqual(tokens_of("   ", 1), [])
        self.assertEqual(tokens_of("", 1), [])

    def test_other_signs_are_refused_with_the_row(self):
        for sign in "%\n\t\r!\"#$&'()./:;?@A^_`{|}~\\Z\u00e9\u0663":
            with self.assertRaises(NoText) as taken:
                tokens_of("x" + sign + "y", 12)
            self.assertEqual(taken.exception.row, 12, repr(sign))

    def test_names(self):
        for word in ("x", "a1", "abcdefgh", "a2345678", "notx", "box1", "orr"):
            self.assertTrue(is_name(word), word)
        for word in ("", "1", "1x", "abcdefghi", "X", "x_", "<=", "-") + KEY_WORDS:
            self.assertFalse(is_name(word), word)

    def test_key_words(self):
        told = ("box lock hand own end set wait if else while rounds either or and not take give "
                "label say at divides true false")
        self.assertEqual(sorted(KEY_WORDS), sorted(told.split()))

    def test_numbers(self):
        for word in ("0", "1", "10", "900", "1" + "0" * 30):
            self.assertTrue(is_number(word), word)
        for word in ("", "00", "01", "1x", "x", "-", "-1"):
            self.assertFalse(is_number(word), word)

    def test_numbers_are_bounded(self):
        self.assertEqual(Reader("12", 1).next_number(2, 12), 12)
        self.assertEqual(Reader("2", 1).next_number(2, 12), 2)
        for text in ("1", "13", "02", "x", "", "9" * 6000):
            with self.assertRaises(NoText) as taken:
                Reader(text, 3).next_number(2, 12)
            self.assertEqual(taken.exception.row, 3)
