"""Alphabets, words and the names of sets: points 2 to 5."""

import inspect
import itertools
import unittest

from cliplore.errors import BadAlphabet, BadStage
from cliplore.signs import Alphabet


class MakingTest(unittest.TestCase):
    def parts(self, alphabet):
        return (alphabet.letters, alphabet.vowels, alphabet.consonants, alphabet.signs)

    def test_point_2_letters_and_vowels_in_any_order(self):
        for letters in itertools.permutations("bace"):
            for vowels in ("ae", "ea"):
                found = self.parts(Alphabet("".join(letters), vowels))
                self.assertEqual(found, ("abce", "ae", "bc", "-abce"))

    def test_point_2_one_letter(self):
        self.assertEqual(self.parts(Alphabet("z")), ("z", "", "z", "-z"))
        self.assertEqual(self.parts(Alphabet("a", "a")), ("a", "a", "", "-a"))

    def test_point_2_eight_letters(self):
        expected = ("ehnorstw", "eo", "hnrstw", "-ehnorstw")
        self.assertEqual(self.parts(Alphabet("northwes", "oe")), expected)
        self.assertEqual(self.parts(Alphabet("azbycxdw", "")), ("abcdwxyz", "", "abcdwxyz", "-abcdwxyz"))

    def test_point_5_vowels_left_out_and_no_vowels(self):
        self.assertEqual(self.parts(Alphabet("ba")), ("ab", "", "ab", "-ab"))
        self.assertEqual(self.parts(Alphabet("ba", "")), ("ab", "", "ab", "-ab"))

    def test_point_5_every_letter_a_vowel(self):
        self.assertEqual(self.parts(Alphabet("oiea", "aeio")), ("aeio", "aeio", "", "-aeio"))

    def test_arguments_by_keyword(self):
        self.assertEqual(self.parts(Alphabet(letters="ba", vowels="a")), ("ab", "a", "b", "-ab"))

    def test_class_values(self):
        self.assertEqual(vars(Alphabet)["JOINT"], "-")
        self.assertEqual(vars(Alphabet)["MOST"], 8)

    def test_interface(self):
        self.assertEqual(str(inspect.signature(Alphabet)), "(letters, vowels='')")
        self.assertEqual(Alphabet.__module__, "cliplore.signs")
        for method in ("__init__", "__eq__", "members", "is_word"):
            self.assertIn(method, vars(Alphabet))


class WrongAlphabetTest(unittest.TestCase):
    def refused(self, part, *arguments):
        with self.subTest(arguments):
            with self.assertRaises(BadAlphabet) as caught:
                Alphabet(*arguments)
            self.assertEqual(caught.exception.part, part)

    def test_point_5_wrong_letters(self):
        for letters in ("", "abcdefghi", "aa", "aba", "abcdefga", "A", "aB", "a-", "-", "a b", " a", "a1",
                        "a\n", "\u00e9", "a\u00e9", "\u0430", "`", "{", "[ab]"):
            self.refused("letters", letters)
            self.refused("letters", letters, "")

    def test_point_5_letters_that_are_no_string(self):
        self.refused("letters", ["a", "b"])
        self.refused("letters", ("a",), "")

    def test_point_5_wrong_vowels(self):
        for vowels in ("aa", "aba", "c", "ac", "A", "-", "a-", " ", "a ", "abb"):
            self.refused("vowels", "ab", vowels)

    def test_point_5_letters_before_vowels(self):
        self.refused("letters", "", "a")
        self.refused("letters", "aa", "aa")
        self.refused("letters", "aB", "x")
        self.refused("letters", "abcdefghi", "z")


class EqualTest(unittest.TestCase):
    def test_point_5_equal_by_letters_and_vowels(self):
        first = Alphabet("cab", "ab")
        self.assertTrue(first == Alphabet("abc", "ba"))
        self.assertFalse(first != Alphabet("abc", "ba"))
        self.assertTrue(first == first)

    def test_point_5_different(self):
        first = Alphabet("abc", "a")
        for other in (Alphabet("abc"), Alphabet("abc", "b"), Alphabet("abc", "ab"), Alphabet("ab", "a"),
                      Alphabet("abd", "a"), Alphabet("abcd", "a")):
            self.assertFalse(first == other)
            self.assertTrue(first != other)

    def test_different_from_other_things(self):
        self.assertFalse(Alphabet("ab", "a") == "ab")
        self.assertFalse(Alphabet("ab", "a") == ("ab", "a"))
        self.assertFalse(Alphabet("ab", "a") == None)  # noqa: E711


class MembersTest(unittest.TestCase):
    def test_point_4_named_sets(self):
        alphabet = Alphabet("ebca", "ea")
        expected = {"all": "-abce", "letters": "abce", "vowels": "ae", "consonants": "bc", "joints": "-"}
        for name, signs in expected.items():
            self.assertEqual(alphabet.members(name), signs)

    def test_point_4_empty_named_sets(self):
        self.assertEqual(Alphabet("ab").members("vowels"), "")
        self.assertEqual(Alphabet("ab", "ab").members("consonants"), "")

    def test_point_4_every_list(self):
        alphabet = Alphabet("cab", "a")
        for size in range(1, 5):
            for signs in itertools.combinations("-abc", size):
                listed = "".join(signs)
                self.assertEqual(alphabet.members(f"[{listed}]"), listed)

    def test_point_4_no_other_list(self):
        alphabet = Alphabet("ab", "a")
        right = {"-", "a", "b", "-a", "-b", "ab", "-ab"}
        for size in range(5):
            for signs in itertools.product("-ab", repeat=size):
                listed = "".join(signs)
                if listed not in right:
                    self.refused(alphabet, f"[{listed}]")

    def refused(self, alphabet, name):
        with self.subTest(name):
            with self.assertRaises(BadStage) as caught:
                alphabet.members(name)
            self.assertEqual(caught.exception.what, "set")

    def test_point_4_no_names(self):
        alphabet = Alphabet("cab", "a")
        for name in ("", "[]", "[", "]", "[[", "]]", "][", "[ba]", "[aa]", "[a-]", "[d]", "[ad]", "[a,b]",
                     "[a b]", "[ab", "ab]", "ab", "a", "-", "[ab]]", "[[ab]", "[ab] ", " [ab]", "(ab)",
                     "{ab}", "All", "ALL", "all ", " all", "vowel", "consonant", "joint", "letter", "al",
                     "[A]", "[all]", "allvowels", "keep", "[]a]", "[a[]"):
            self.refused(alphabet, name)

    def test_example(self):
        alphabet = Alphabet("cab", "a")
        self.assertEqual(alphabet.members("consonants"), "bc")


class WordTest(unittest.TestCase):
    def test_point_3_words(self):
        alphabet = Alphabet("ba", "a")
        for word in ("", "a", "b", "-", "--", "-a", "a-", "a--b", "---", "ab-ba", "b" * 60, "-" * 60):
            self.assertIs(alphabet.is_word(word), True)

    def test_point_3_longer_words_are_words(self):
        self.assertIs(Alphabet("ba").is_word("ab-" * 30), True)

    def test_point_3_foreign_characters(self):
        alphabet = Alphabet("ba", "a")
        for text in ("c", "abc", "cab", "a c", " ", "a ", " a", "A", "a\n", "_", "a_b", "a+b", "\u2010",
                     "\u00e4", "a1", "ab" * 29 + "c"):
            self.assertIs(alphabet.is_word(text), False)


if __name__ == "__main__":
    unittest.main()
