"""The classes of stages: points 6 to 10, 13 and 14, and their written forms of point 11."""

import inspect
import itertools
import unittest

from cliplore import stages
from cliplore.errors import BadStage, BadWord
from cliplore.signs import Alphabet
from cliplore.stages import Add, Drop, LastDrop, Once, Stage, Write
from tests import plain_stages
from tests.plain_stages import NAMES, every_stage

ALPHABET = Alphabet("ba", "a")
WORDS = list(plain_stages.words("-ab", 6))


class ResultTest(unittest.TestCase):
    def results(self, stage, expected):
        for word, short in expected.items():
            with self.subTest(f"{stage.text()}: {word}"):
                self.assertEqual(stage(word), short)

    def test_points_6_to_10_every_stage_and_every_short_word(self):
        for stage, result in every_stage(ALPHABET):
            with self.subTest(stage.text()):
                for word in WORDS:
                    self.assertEqual(stage(word), result(word), word)

    def test_points_6_to_10_alphabets_with_empty_sets(self):
        for alphabet in (Alphabet("ab"), Alphabet("ab", "ab")):
            for stage, result in every_stage(alphabet):
                with self.subTest(stage.text()):
                    for word in plain_stages.words("-ab", 4):
                        self.assertEqual(stage(word), result(word), word)

    def test_point_6_drop(self):
        alphabet = Alphabet("northwes", "eo")
        self.results(Drop(alphabet, "vowels"), {"": "", "north-west": "nrth-wst", "eo": "", "-": "-"})
        self.results(Drop(alphabet, "all"), {"": "", "north-west": ""})
        self.results(Drop(alphabet, "joints"), {"north-west": "northwest", "--n--": "n"})
        self.results(Drop(alphabet, "[-w]"), {"north-west": "northest"})

    def test_point_6_after(self):
        alphabet = Alphabet("northwes", "eo")
        self.results(Drop(alphabet, "all", after=1), {"": "", "w": "w", "west": "w", "-west": "-"})
        self.results(Drop(alphabet, "all", after=2), {"w": "w", "we": "we", "west": "we"})
        self.results(Drop(alphabet, "all", after=3), {"wes": "wes", "west": "wes", "north-west": "nor"})
        self.results(Drop(alphabet, "vowels", after=1), {"eo": "e", "oro": "or", "noo": "n"})
        self.results(Drop(alphabet, "joints", after=2), {"---n-": "--n", "n-n-n": "n-nn"})

    def test_point_6_each(self):
        alphabet = Alphabet("northwes", "eo")
        self.results(Drop(alphabet, "letters", after=1, each=True),
                     {"north-west": "n-w", "-north": "-n", "north-": "n-", "no--we": "n--w", "--": "--",
                      "--no--we--": "--n--w--"})
        self.results(Drop(alphabet, "letters", after=2, each=True), {"north-west": "no-we", "n-w": "n-w"})
        self.results(Drop(alphabet, "letters", each=True), {"north-west": "-", "--": "--"})

    def test_point_6_each_keeps_joints_of_the_set(self):
        alphabet = Alphabet("northwes", "eo")
        for name in ("all", "joints", "[-e]"):
            for after in range(4):
                stage = Drop(alphabet, name, after=after, each=True)
                for word in ("-", "--", "-nn", "nn-", "n--n", "nnnn-nnnn"):
                    self.assertEqual(stage(word).count("-"), word.count("-"))
        self.results(Drop(alphabet, "all", after=1, each=True), {"-no--we-": "-n--w-"})
        self.results(Drop(alphabet, "joints", each=True), {"-no--we-": "-no--we-"})

    def test_point_7_but_last(self):
        alphabet = Alphabet("west", "e")
        self.results(LastDrop(alphabet, "all"),
                     {"": "", "w": "w", "west": "t", "west-": "-", "we--": "-", "-": "-", "--": "-"})
        self.results(LastDrop(alphabet, "all", after=2), {"west": "wet", "we": "we", "w": "w", "": ""})
        self.results(LastDrop(alphabet, "vowels"), {"ewe": "we", "ee": "e", "e-e": "-e", "e-": "-"})
        self.results(LastDrop(alphabet, "joints"), {"w-": "w-", "w--": "w-", "-w": "w", "-": "-"})

    def test_point_7_but_last_with_each(self):
        alphabet = Alphabet("west", "e")
        self.results(LastDrop(alphabet, "all", each=True),
                     {"": "", "we-st": "e-t", "west-": "t-", "west--": "t--", "--": "--", "-west": "-t",
                      "we--st": "e--t"})
        self.results(LastDrop(alphabet, "letters", after=1, each=True),
                     {"": "", "west-west": "wt-wt", "w-w": "w-w", "west--": "wt--", "-": "-"})
        self.results(LastDrop(alphabet, "vowels", each=True), {"eee-eew": "e-w", "ee": "e", "e-e": "e-e"})
        self.results(LastDrop(alphabet, "joints", each=True), {"-w-": "-w-", "w--": "w--"})

    def test_point_8_write(self):
        alphabet = Alphabet("west", "e")
        self.results(Write(alphabet, "s", "vowels"), {"": "", "ewe": "sws", "-e-": "-s-"})
        self.results(Write(alphabet, "-", "letters"), {"west": "----", "w-e": "---"})
        self.results(Write(alphabet, "e", "joints"), {"w-s": "wes", "--": "ee"})
        self.results(Write(alphabet, "t", "all"), {"w-es": "tttt"})
        self.results(Write(Alphabet("ab"), "a", "vowels"), {"ab-": "ab-"})

    def test_point_9_once(self):
        alphabet = Alphabet("west", "e")
        self.results(Once(alphabet, "all"),
                     {"": "", "w": "w", "ww": "w", "www": "w", "eeeee--": "e-", "wew": "wew", "wwewww": "wew"})
        self.results(Once(alphabet, "vowels"), {"wwee": "wwe", "eee": "e", "eweee": "ewe", "e-e": "e-e"})
        self.results(Once(alphabet, "joints"), {"---w--": "-w-", "ww--": "ww-"})

    def test_point_9_removed_signs_do_not_mislead(self):
        self.results(Once(Alphabet("ab"), "[a]"), {"aaa": "a", "aaaa": "a", "aabaa": "aba", "abbaa": "abba"})
        self.results(Once(Alphabet("ab"), "[ab]"), {"aabb": "ab", "aabbaabb": "abab", "abab": "abab"})

    def test_point_10_add(self):
        alphabet = Alphabet("west", "e")
        self.results(Add(alphabet, "s"), {"": "s", "west": "wests", "s": "ss"})
        self.results(Add(alphabet, "-"), {"": "-", "w-": "w--"})

    def test_longest_words(self):
        word = "ab-ba-" * 10
        for stage, result in every_stage(ALPHABET):
            self.assertEqual(stage(word), result(word))

    def test_example(self):
        self.assertEqual(LastDrop(Alphabet("west", "e"), "all", after=2)("west"), "wet")


class TextTest(unittest.TestCase):
    def test_point_11_drop(self):
        for name in NAMES:
            self.assertEqual(Drop(ALPHABET, name).text(), f"drop {name}")
            self.assertEqual(Drop(ALPHABET, name, after=0, each=False).text(), f"drop {name}")
            self.assertEqual(Drop(ALPHABET, name, each=True).text(), f"drop {name} each")
            for after in (1, 2, 3):
                self.assertEqual(Drop(ALPHABET, name, after=after).text(), f"drop {name} after {after}")
                self.assertEqual(Drop(ALPHABET, name, after=after, each=True).text(), f"drop {name} after {after} each")

    def test_point_11_but_last(self):
        for name in NAMES:
            self.assertEqual(LastDrop(ALPHABET, name).text(), f"drop {name} but last")
            self.assertEqual(LastDrop(ALPHABET, name, each=True).text(), f"drop {name} each but last")
            self.assertEqual(LastDrop(ALPHABET, name, after=3).text(), f"drop {name} after 3 but last")
            self.assertEqual(LastDrop(ALPHABET, name, after=2, each=True).text(), f"drop {name} after 2 each but last")

    def test_point_11_others(self):
        self.assertEqual(Write(ALPHABET, "-", "vowels").text(), "write - for vowels")
        self.assertEqual(Write(ALPHABET, "b", "[-a]").text(), "write b for [-a]")
        self.assertEqual(Once(ALPHABET, "all").text(), "once all")
        self.assertEqual(Once(ALPHABET, "[b]").text(), "once [b]")
        self.assertEqual(Add(ALPHABET, "a").text(), "add a")
        self.assertEqual(Add(ALPHABET, "-").text(), "add -")

    def test_point_4_a_list_is_written_as_it_was_given(self):
        self.assertEqual(Drop(Alphabet("ab", "a"), "[a]").text(), "drop [a]")
        self.assertEqual(Drop(Alphabet("ab", "a"), "[ab]").text(), "drop [ab]")


class WrongStageTest(unittest.TestCase):
    def refused(self, what, stage, *arguments, **more):
        with self.subTest(f"{stage.__name__} {arguments} {more}"):
            with self.assertRaises(BadStage) as caught:
                stage(ALPHABET, *arguments, **more)
            self.assertEqual(caught.exception.what, what)

    def test_point_13_wrong_sets(self):
        for name in ("", "vowel", "[]", "[ba]", "[aa]", "[c]", "a", "-", "[a b]", "[-ab"):
            self.refused("set", Drop, name)
            self.refused("set", LastDrop, name)
            self.refused("set", Once, name)
            self.refused("set", Write, "a", name)

    def test_point_13_wrong_after(self):
        for after in (-100, -2, -1, 4, 5, 60, 2 ** 70):
            for each in (False, True):
                self.refused("after", Drop, "all", after=after, each=each)
                self.refused("after", LastDrop, "all", after=after, each=each)

    def test_point_13_the_set_before_after(self):
        for after in (-1, 4):
            self.refused("set", Drop, "none", after=after)
            self.refused("set", LastDrop, "none", after=after)

    def test_point_13_wrong_signs(self):
        for sign in ("", "c", "ab", "-a", "-ab", "aa", "A", " ", "1", "--"):
            self.refused("sign", Add, sign)
            self.refused("sign", Write, sign, "all")

    def test_point_13_the_sign_before_the_set(self):
        for sign in ("", "c", "ab"):
            self.refused("sign", Write, sign, "none")


class SignBySignTest(unittest.TestCase):
    def joined(self, stage, word):
        state = stage.start()
        pieces = []
        for sign in word:
            state, piece = stage.step(state, sign)
            pieces.append(piece)
        return "".join(pieces) + stage.end(state)

    def test_point_14_joined_texts_are_the_result(self):
        for stage, result in every_stage(ALPHABET):
            with self.subTest(stage.text()):
                for word in plain_stages.words("-ab", 5):
                    self.assertEqual(self.joined(stage, word), result(word))

    def test_point_14_kinds_of_values(self):
        for stage, _ in every_stage(ALPHABET):
            state = stage.start()
            for sign in "ab-ba--":
                pair = stage.step(state, sign)
                self.assertIs(pair.__class__, tuple)
                self.assertEqual(len(pair), 2)
                state, piece = pair
                self.assertIs(piece.__class__, str)
                self.assertIs(stage.end(state).__class__, str)

    def test_point_14_a_state_may_be_stepped_again(self):
        for stage, result in every_stage(ALPHABET):
            with self.subTest(stage.text()):
                for word in plain_stages.words("-ab", 3):
                    self.stepped_again(stage, word, result)

    def stepped_again(self, stage, word, result):
        states = [stage.start()]
        pieces = []
        for sign in word:
            before = states[-1]
            stage.end(before)
            for other in ALPHABET.signs:
                first = stage.step(before, other)
                stage.step(first[0], sign)
                self.assertEqual(stage.step(before, other), first)
            state, piece = stage.step(before, sign)
            states.append(state)
            pieces.append(piece)
        # From each state on the way, every word goes on as if nothing else had been read.
        for index, state in enumerate(states):
            for more in ("", "a", "b", "-", "ab", "-a", "aa"):
                rest = [stage.step(state, sign) for sign in more[:1]]
                after = rest[0][0] if rest else state
                rest += [stage.step(after, sign) for sign in more[1:]]
                end = stage.end(rest[-1][0] if rest else state)
                whole = "".join(pieces[:index]) + "".join(piece for _, piece in rest) + end
                self.assertEqual(whole, result(word[:index] + more))

    def test_point_14_two_words_by_turns(self):
        for stage, result in every_stage(ALPHABET):
            with self.subTest(stage.text()):
                for one, two in (("aab-b", "b--aa"), ("--", "ab"), ("abab", "aaaa")):
                    self.assertEqual(self.by_turns(stage, one, two), [result(one), result(two)])

    def by_turns(self, stage, *words):
        states = [stage.start() for _ in words]
        found = ["" for _ in words]
        for signs in itertools.zip_longest(*words):
            for index, sign in enumerate(signs):
                if sign is not None:
                    states[index], piece = stage.step(states[index], sign)
                    found[index] += piece
                stage(words[index])
        return [text + stage.end(state) for text, state in zip(found, states)]

    def test_point_14_calls_do_not_depend_on_one_another(self):
        for stage, result in every_stage(ALPHABET):
            for word in ("aab", "b-a", "aab"):
                self.assertEqual(stage(word), result(word))

    def test_point_14_wrong_words(self):
        for stage, _ in every_stage(ALPHABET):
            for word in ("c", "abc", "a b", " ", "A", "ab\n", "a_b", "\u00e4", "b" * 30 + "?" + "-" * 20):
                with self.assertRaises(BadWord) as caught:
                    stage(word)
                self.assertEqual(caught.exception.word, word)


class CopyTest(unittest.TestCase):
    def test_point_1_arguments_are_not_modified(self):
        alphabet = Alphabet("ba", "a")
        before = dict(vars(alphabet))
        for stage, _ in every_stage(alphabet):
            stage("ab-ba")
            stage.text()
        self.assertEqual(vars(alphabet), before)

    def test_point_1_objects_copy_their_arguments(self):
        alphabet = Alphabet("ba", "a")
        made = list(every_stage(alphabet))
        alphabet.letters = alphabet.signs = alphabet.vowels = "x"
        for stage, result in made:
            self.assertEqual(stage("ab-ba"), result("ab-ba"))
            self.assertTrue(stage.alphabet == ALPHABET)


class InterfaceTest(unittest.TestCase):
    def test_signatures(self):
        expected = {
            "Stage": "(alphabet)",
            "Drop": "(alphabet, name, *, after=0, each=False)",
            "LastDrop": "(alphabet, name, *, after=0, each=False)",
            "Write": "(alphabet, sign, name)",
            "Once": "(alphabet, name)",
            "Add": "(alphabet, sign)",
            "read_stage": "(alphabet, text)",
        }
        for name, signature in expected.items():
            self.assertEqual(str(inspect.signature(getattr(stages, name))), signature)
            self.assertEqual(getattr(stages, name).__module__, "cliplore.stages")

    def test_base_classes(self):
        self.assertEqual(Stage.__bases__, (object,))
        self.assertEqual(LastDrop.__bases__, (Drop,))
        for stage in (Drop, Write, Once, Add):
            self.assertEqual(stage.__bases__, (Stage,))

    def test_methods_stand_in_each_class(self):
        self.assertEqual(str(inspect.signature(Stage.__call__)), "(self, word)")
        expected = {"text": "(self)", "start": "(self)", "step": "(self, state, sign)", "end": "(self, state)"}
        for stage in (Drop, LastDrop, Write, Once, Add):
            for method, signature in expected.items():
                self.assertEqual(str(inspect.signature(vars(stage)[method])), signature)

    def test_attribute_alphabet(self):
        self.assertTrue(Stage(ALPHABET).alphabet == ALPHABET)
        for stage, _ in every_stage(ALPHABET):
            self.assertTrue(stage.alphabet == ALPHABET)

    def test_arguments_by_keyword(self):
        self.assertEqual(Drop(alphabet=ALPHABET, name="all", after=1).text(), "drop all after 1")
        self.assertEqual(LastDrop(alphabet=ALPHABET, name="all", each=True).text(), "drop all each but last")
        self.assertEqual(Write(alphabet=ALPHABET, sign="a", name="all").text(), "write a for all")
        self.assertEqual(Once(alphabet=ALPHABET, name="all").text(), "once all")
        self.assertEqual(Add(alphabet=ALPHABET, sign="a").text(), "add a")

    def test_after_and_each_only_by_keyword(self):
        for stage in (Drop, LastDrop):
            with self.assertRaises(TypeError):
                stage(ALPHABET, "all", 1)


if __name__ == "__main__":
    unittest.main()
