"""read_stage: points 11 and 12."""

import itertools
import unittest

from cliplore.errors import BadStage
from cliplore.signs import Alphabet
from cliplore.stages import Add, Drop, LastDrop, Once, Write, read_stage

ALPHABET = Alphabet("ba", "a")
NAMES = ("all", "letters", "vowels", "consonants", "joints", "[-]", "[a]", "[b]", "[-a]", "[-b]", "[ab]", "[-ab]")


class ReadTest(unittest.TestCase):
    def read(self, text, expected):
        with self.subTest(text):
            stage = read_stage(ALPHABET, text)
            self.assertIs(stage.__class__, expected)
            self.assertEqual(stage.text(), text)
            self.assertTrue(stage.alphabet == ALPHABET)

    def test_every_drop(self):
        for name, after, each in itertools.product(NAMES, ("", " after 1", " after 2", " after 3"), ("", " each")):
            self.read(f"drop {name}{after}{each}", Drop)
            self.read(f"drop {name}{after}{each} but last", LastDrop)

    def test_every_other_form(self):
        for name in NAMES:
            self.read(f"once {name}", Once)
            for sign in "-ab":
                self.read(f"write {sign} for {name}", Write)
        for sign in "-ab":
            self.read(f"add {sign}", Add)

    def test_what_was_read_works(self):
        expected = {
            "drop all after 2 but last": "ab-",
            "drop all after 1 each": "a-b-",
            "drop all each but last": "a-a-",
            "drop joints but last": "abaaba-",
            "drop vowels": "b-b-",
            "write - for [a]": "-b---b--",
            "once vowels": "aba-ba-",
            "add b": "abaa-ba-b",
        }
        for text, short in expected.items():
            with self.subTest(text):
                self.assertEqual(read_stage(ALPHABET, text)("abaa-ba-"), short)

    def test_the_example_of_after_and_but_last(self):
        self.assertEqual(read_stage(Alphabet("west", "e"), "drop all after 2 but last")("west"), "wet")


class WrongTest(unittest.TestCase):
    def refused(self, what, *texts):
        for text in texts:
            with self.subTest(text):
                with self.assertRaises(BadStage) as caught:
                    read_stage(ALPHABET, text)
                self.assertEqual(caught.exception.what, what)

    def test_no_form(self):
        self.refused("text", "", " ", "  ", "keep", "all", "drop", "write", "once", "add", "Drop all", "DROP all",
                     "drops all", "remove all", "drop all; add a", "drop\tall", "\nadd a")

    def test_no_form_of_drop(self):
        self.refused("text", "drop all after", "drop all 1", "drop all after 1 2", "drop all each after 1",
                     "drop all each each", "drop all but", "drop all last", "drop all last but",
                     "drop all but last each", "drop all but last after 1", "drop all but last but last",
                     "drop all after 1 but", "drop all after 1 last", "drop all after but last",
                     "drop all after 1 each but", "drop all after 1 each each", "drop all vowels", "drop but last",
                     "drop after 1", "drop all after 1 after 2", "drop all Each", "drop all each but Last")

    def test_no_form_of_the_others(self):
        self.refused("text", "once all each", "once all all", "once all but last", "once all after 1", "add a b",
                     "add a each", "write a", "write a for", "write a all", "write a in all", "write a for all each",
                     "write a b for all", "write for all", "write a For all")

    def test_wrong_sign(self):
        self.refused("sign", "add c", "add ab", "add -a", "add A", "add all", "add [a]", "write c for all",
                     "write ab for vowels", "write -- for all", "write for for all", "write [a] for all")

    def test_wrong_set(self):
        self.refused("set", "drop vowel", "drop [ba]", "drop []", "drop [c]", "drop a", "drop each", "drop each each",
                     "drop after", "drop but", "drop but but last", "drop after after 1", "drop after each",
                     "drop all\n", "drop all\teach", "drop none but last", "drop none each but last", "once vowel",
                     "once [aa]", "once a",
                     "write a for vowel", "write a for for", "write a for [ab")

    def test_wrong_after(self):
        for word in ("0", "4", "9", "-1", "+1", "01", "10", "12", "123", "1.", "one", "each", "but", "last", "after",
                     "\u0661", "\u00b2"):
            self.refused("after", f"drop all after {word}", f"drop all after {word} each",
                         f"drop all after {word} but last", f"drop all after {word} each but last")

    def test_from_left_to_right(self):
        self.refused("set", "drop none after 4", "drop none after each", "drop none after 0 each but last")
        self.refused("sign", "write c for none", "write  for none", "write ab for ")
        self.refused("text", "drop none after", "drop none after 4 x", "write c for none each", "add c d")

    def test_empty_words_that_match_no_form(self):
        self.refused("text", " drop all", "drop all ", "drop  all", "drop all  each", "drop all each ",
                     "drop all each  but last", "drop all but  last", "drop all but last ", "drop all after  1",
                     "drop all after 1 ", " once all", "once  all", "once all ", " add a", "add  a", "add a ",
                     "write  a for all", "write a  for all", "write a for  all", "write a for all ", "add  ")

    def test_empty_words_that_stand_for_a_part(self):
        self.refused("set", "drop ", "drop  each", "drop  after 1", "drop  but last", "once ", "write a for ")
        self.refused("sign", "add ", "write  for all")
        self.refused("after", "drop all after ", "drop all after  each", "drop all after  but last")

    def test_examples_of_point_12(self):
        self.refused("after", "drop all after each")
        self.refused("text", "drop all after")

    def test_the_set_depends_on_the_alphabet(self):
        self.assertEqual(read_stage(Alphabet("abc"), "drop [bc]").text(), "drop [bc]")
        self.refused("set", "drop [bc]")
        self.refused("sign", "add c")


if __name__ == "__main__":
    unittest.main()
