"""Shapes: points 24 and 25."""

import itertools
import random
import unittest

from cliplore.errors import BadShape
from cliplore.signs import Alphabet
from cliplore.stocks import Stock
from tests import plain_stages
from tests.plain_shapes import as_expression, is_shape, random_shape, wrong_place
from tests.plain_tables import check_least

ALPHABET = Alphabet("ba", "a")
WITHOUT_VOWELS = Alphabet("ba")
WITHOUT_CONSONANTS = Alphabet("ba", "ba")
ALPHABETS = (ALPHABET, WITHOUT_VOWELS, WITHOUT_CONSONANTS)
WORDS = list(plain_stages.words("-ab", 5))


class DescribedTest(unittest.TestCase):
    def described(self, text, words, alphabet=ALPHABET, most=3):
        with self.subTest(text):
            self.assertEqual(list(Stock.shaped(alphabet, text).words(most)), words)

    def by_expression(self, alphabet, text):
        stock, expression = Stock.shaped(alphabet, text), as_expression(alphabet, text)
        with self.subTest(text):
            for word in WORDS:
                self.assertEqual(word in stock, expression.fullmatch(word) is not None, word)

    def test_point_24_each_kind_of_atom(self):
        self.described("C", ["b"])
        self.described("V", ["a"])
        self.described("L", ["a", "b"])
        self.described("J", ["-"])
        self.described("S", ["-", "a", "b"])
        self.described("a", ["a"])
        self.described("b", ["b"])
        self.described("-", ["-"])
        self.described("(a)", ["a"])
        self.described("(ab)", ["ab"])

    def test_point_24_marks(self):
        self.described("a?", ["", "a"])
        self.described("a*", ["", "a", "aa", "aaa"])
        self.described("a+", ["a", "aa", "aaa"])
        self.described("L?", ["", "a", "b"])
        self.described("(a-)?", ["", "a-"])
        self.described("(ab)*", ["", "ab", "abab"], most=4)
        self.described("(ab)+", ["ab", "abab"], most=5)
        self.described("(a?)+", ["", "a", "aa"], most=2)
        self.described("(a*b?)*", ["", "a", "b", "aa", "ab", "ba", "bb"], most=2)
        self.described("((a)?)?", ["", "a"])

    def test_point_24_a_mark_belongs_to_the_atom_before_it(self):
        self.described("ab?", ["a", "ab"])
        self.described("ab*", ["a", "ab", "abb"])
        self.described("a+b", ["ab", "aab"])

    def test_point_24_items_and_branches(self):
        self.described("ab-", ["ab-"])
        self.described("a|b", ["a", "b"])
        self.described("ab|b|--a", ["b", "ab", "--a"])
        self.described("a|a", ["a"])
        self.described("(a|b)-", ["a-", "b-"])
        self.described("a|b-", ["a", "b-"])
        self.described("a?b?|-", ["", "-", "a", "b", "ab"])
        self.described("a(b|-)?a", ["aa", "a-a", "aba"])

    def test_point_24_without_vowels(self):
        for text, words in (("V", []), ("V?", [""]), ("V*", [""]), ("V+", []), ("aV", []), ("aV?b", ["ab"]),
                            ("V*a", ["a"]), ("V+|a", ["a"]), ("(V|b)+", ["b", "bb", "bbb"]), ("C", ["a", "b"])):
            self.described(text, words, WITHOUT_VOWELS)

    def test_point_24_without_consonants(self):
        for text, words in (("C", []), ("C?", [""]), ("C*", [""]), ("C+", []), ("(CV)+", []), ("(CV)*-", ["-"]),
                            ("C?V", ["a", "b"]), ("L", ["a", "b"])):
            self.described(text, words, WITHOUT_CONSONANTS)

    def test_point_24_every_atom_and_mark_by_expressions(self):
        for alphabet in ALPHABETS:
            for one, two in itertools.product("CVLJSa-", repeat=2):
                for mark in ("", "?", "*", "+"):
                    for text in (f"{one}{mark}{two}", f"{one}{two}{mark}", f"{one}|{two}{mark}", f"({one}{two}){mark}",
                                 f"({one}|{two}){mark}", f"({one}{mark}{two})*"):
                        self.by_expression(alphabet, text)

    def test_point_24_random_shapes_by_expressions(self):
        chance = random.Random(24)
        for index in range(300):
            alphabet = ALPHABETS[index % 3]
            text, many = random_shape(chance, alphabet, chance.randint(1, 8))
            self.assertLessEqual(many, 10)
            self.by_expression(alphabet, text)

    def test_point_24_the_tables_are_least(self):
        chance = random.Random(25)
        for _ in range(60):
            text, _ = random_shape(chance, ALPHABET, 3)
            check_least(self, Stock.shaped(ALPHABET, text))

    def test_point_24_parentheses_three_deep(self):
        self.described("(((a)))", ["a"])
        self.described("(((a)b)?-)*", ["", "-", "--", "---", "ab-"])
        self.described("(((a)))(((b)))", ["ab"])
        self.described("((a|(b))|((-)))+", ["-", "a", "b"], most=1)

    def test_point_24_ten_atoms(self):
        self.described("ab-ab-ab-a", ["ab-ab-ab-a"], most=60)
        self.described("(a(b(-)a)b)-(ab-)a", ["ab-ab-ab-a"], most=60)
        self.described("(((aaaaaaaaaa)))", ["a" * 10], most=60)
        self.described("C|V|L|J|S|a|b|-|a|b", ["-", "a", "b"])
        self.assertEqual(Stock.shaped(ALPHABET, "S?" * 10).count(60), sum(3 ** size for size in range(11)))
        self.assertEqual(Stock.shaped(ALPHABET, "S*aSSSSSSSS").count(10), 3 ** 8 + 3 ** 9)

    def test_point_24_an_alphabet_of_eight_letters(self):
        stock = Stock.shaped(Alphabet("abcdefgh", "ae"), "Ch+(V|-)")
        self.assertEqual(list(stock.words(3)), [f"{one}h{two}" for one in "bcdfgh" for two in "-ae"])

    def test_point_24_the_example(self):
        stock = Stock.shaped(ALPHABET, "(CV)+C?")
        for word in ("ba", "bab", "baba"):
            self.assertIn(word, stock)


class WrongShapeTest(unittest.TestCase):
    def refused(self, place, *texts, alphabet=ALPHABET):
        for text in texts:
            with self.subTest(text):
                with self.assertRaises(BadShape) as caught:
                    Stock.shaped(alphabet, text)
                self.assertEqual(caught.exception.place, place)

    def test_point_25_the_four_examples(self):
        self.refused(0, "")
        self.refused(2, "a**")
        self.refused(1, "()")
        self.refused(2, "(a")

    def test_point_25_every_short_text(self):
        for size in range(5):
            for chars in itertools.product("aC-()|?*x", repeat=size):
                text = "".join(chars)
                place = wrong_place(ALPHABET, text)
                if place is None:
                    Stock.shaped(ALPHABET, text)
                else:
                    self.refused(place, text)

    def test_point_25_random_texts(self):
        chance = random.Random(26)
        for _ in range(1500):
            text = list(random_shape(chance, ALPHABET, 4)[0])
            text[chance.randrange(len(text))] = chance.choice(["", "x", "(", ")", "|", "?", "*", "+", "b"])
            text = "".join(text)
            place = wrong_place(ALPHABET, text)
            self.assertEqual(place is None, is_shape(ALPHABET, text) and "((((" not in text)
            if place is not None:
                self.refused(place, text)

    def test_point_25_characters_that_stand_nowhere(self):
        for char in ("c", "z", "A", "B", "D", " ", "\n", "0", "[", "]", "{", ".", "_", "#", "^", "\\", "\u00e4"):
            self.refused(0, char, char + "a", char + "(")
            self.refused(1, "a" + char, "a" + char + "a", "(" + char)
            self.refused(4, "(ab)" + char, "a|b*" + char + "*", "(a?-" + char + ")")

    def test_point_25_marks_without_an_atom(self):
        for mark in "?*+":
            self.refused(0, mark, mark + "a", mark + mark)
            self.refused(1, "(" + mark, "(" + mark + "a)")
            self.refused(2, "a|" + mark, "a|" + mark + "b")
            for other in "?*+":
                self.refused(2, "a" + other + mark, "a" + other + mark + "b")
                self.refused(4, "(a)" + other + mark, "b(a" + other + mark)

    def test_point_25_bars_and_closing_parentheses(self):
        self.refused(0, "|", "|a", ")", ")a", "||")
        self.refused(1, "(|a)", "()a", "a)", "a)b", "()|a")
        self.refused(2, "a||b", "a|)", "((|", "(()", "a*)")
        self.refused(3, "(a|)", "(a||b)", "(a))", "a?|)")
        self.refused(5, "(a|b))", "(a)b?)", "(a)-|)", "(a)|(|")

    def test_point_25_texts_that_end_too_early(self):
        for text in ("", "(", "((", "(((", "a|", "(a", "(a*", "(a|", "(a|b", "((a)", "a(", "a(b|", "a|b|", "(a)|"):
            self.refused(len(text), text)

    def test_point_25_the_fourth_parenthesis(self):
        self.refused(3, "((((", "((((a))))", "((((((")
        self.refused(4, "a((((a))))", "(a(((", "((b((a", "(((a(b))))")
        self.refused(5, "(a(b((", "((a|((a", "a*(((((")
        self.refused(9, "((a)(b)(((", "((a)(b)((((a))))")
        self.refused(12, "(((a)b)*b|(((a")
        self.assertIn("aba", Stock.shaped(ALPHABET, "((a)(b)((a)))"))

    def test_point_25_the_eleventh_atom(self):
        ten = "ab-CVLJSab"
        for atom in "abCVLJS-":
            self.refused(10, ten + atom, ten + atom + "|", ten + atom + "*")
        self.refused(11, ten + "*a", ten + "|a", ten + "?-", ten + "(a", ten + "(a)", "(" + ten + "S")
        self.refused(20, "a*" * 11, "a|" * 10 + "a", "a|" * 11)
        self.refused(18, "(((a)b)?-)*JSVCLab" + "b", "(((a)b)?-)*JSVCLab" + "SS")
        self.refused(19, "(((a)b)?-)*JSVCLab" + "*b")

    def test_point_25_parentheses_behind_the_tenth_atom(self):
        ten = "ab-CVLJSab"
        self.refused(11, ten + "(", ten + "()", ten + "(*", ten + "(|", ten + "(x", ten + "(a", ten + "(a)")
        self.refused(12, ten + "((", ten + "((a", ten + "(()")
        self.refused(13, ten + "(((", ten + "(((a", ten + "((((")
        self.refused(13, "(" + ten + ")(", "(" + ten + ")(|", "(" + ten + ")(a")
        self.refused(10, ten + ")", ten + "x")
        self.refused(11, ten + "|", ten + "|)")

    def test_point_25_the_alphabet_counts(self):
        self.refused(2, "abc")
        self.refused(1, "cba", alphabet=Alphabet("ac"))
        self.assertIn("abc", Stock.shaped(Alphabet("abc"), "abc"))


if __name__ == "__main__":
    unittest.main()
