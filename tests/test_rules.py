"""Rules: points 15 to 19."""

import inspect
import itertools
import random
import unittest

from cliplore import rules
from cliplore.errors import BadRule, BadWord, Mixed
from cliplore.rules import Rule
from cliplore.signs import Alphabet
from cliplore.stages import Add, Drop, LastDrop, Once, Write
from tests import plain_stages
from tests.plain_stages import every_stage

ALPHABET = Alphabet("ba", "a")
OTHERS = (Alphabet("ba"), Alphabet("ba", "ab"), Alphabet("b"), Alphabet("abc", "a"))
WORDS = list(plain_stages.words("-ab", 4))
FOREIGN = ("c", "abc", "a b", " ", "A", "ab\n", "a_b", "\u00e4", "b" * 30 + "?" + "-" * 20)


def some_rules(number):
    """Rules of 0 to 4 stages, with the functions of their stages."""
    chance = random.Random(15)
    stages = list(every_stage(ALPHABET))
    yield Rule(ALPHABET), []
    for index in range(number):
        chosen = [chance.choice(stages) for _ in range(index % 4 + 1)]
        yield Rule(ALPHABET, *[stage for stage, _ in chosen]), [result for _, result in chosen]


def plain_trace(word, results):
    found = [word]
    for result in results:
        found.append(result(found[-1]))
    return found


class ResultTest(unittest.TestCase):
    def test_point_15_each_stage_is_given_the_result_before_it(self):
        for rule, results in some_rules(200):
            with self.subTest(rule.text()):
                for word in WORDS:
                    self.assertEqual(rule(word), plain_trace(word, results)[-1])

    def test_point_15_without_stages_every_word_stays(self):
        for word in ("", "-", "a", "ab--ba", "b" * 60):
            self.assertEqual(Rule(ALPHABET)(word), word)
            self.assertEqual(Rule.read(ALPHABET, "keep")(word), word)

    def test_point_15_the_order_counts(self):
        drop, write = Drop(ALPHABET, "vowels"), Write(ALPHABET, "a", "consonants")
        self.assertEqual(Rule(ALPHABET, drop, write)("abba"), "aa")
        self.assertEqual(Rule(ALPHABET, write, drop)("abba"), "")

    def test_point_15_the_same_stage_several_times(self):
        add = Add(ALPHABET, "a")
        self.assertEqual(Rule(ALPHABET, add, add, add, add)("b"), "baaaa")

    def test_point_19_trace(self):
        for rule, results in some_rules(200):
            for word in WORDS[::7]:
                self.assertEqual(rule.trace(word), plain_trace(word, results))
        self.assertEqual(Rule(ALPHABET).trace("ab"), ["ab"])
        self.assertEqual(Rule.read(ALPHABET, "add a; drop all; add b").trace(""), ["", "a", "", "b"])

    def test_point_19_a_trace_is_a_fresh_list(self):
        rule = Rule.read(ALPHABET, "add a; add b")
        rule.trace("a").clear()
        self.assertEqual(rule.trace("a"), ["a", "aa", "aab"])

    def test_point_19_wrong_words(self):
        for text in ("keep", "add a", "drop all", "drop all; once all; add b; add a"):
            rule = Rule.read(ALPHABET, text)
            for word in FOREIGN:
                for call in (rule, rule.trace):
                    with self.assertRaises(BadWord) as caught:
                        call(word)
                    self.assertEqual(caught.exception.word, word)


class ReadTest(unittest.TestCase):
    def refused(self, stage, what, *texts):
        for text in texts:
            with self.subTest(text):
                with self.assertRaises(BadRule) as caught:
                    Rule.read(ALPHABET, text)
                self.assertEqual((caught.exception.stage, caught.exception.what), (stage, what))

    def test_point_16_written_forms(self):
        drop, last = Drop(ALPHABET, "all", after=1), LastDrop(ALPHABET, "[ab]", each=True)
        write, once, add = Write(ALPHABET, "-", "vowels"), Once(ALPHABET, "joints"), Add(ALPHABET, "b")
        self.assertEqual(Rule(ALPHABET).text(), "keep")
        self.assertEqual(Rule(ALPHABET, drop).text(), "drop all after 1")
        self.assertEqual(Rule(ALPHABET, last, add).text(), "drop [ab] each but last; add b")
        self.assertEqual(Rule(ALPHABET, drop, write, once, add).text(),
                         "drop all after 1; write - for vowels; once joints; add b")

    def test_point_17_what_was_written_is_read(self):
        for rule, _ in some_rules(200):
            again = Rule.read(ALPHABET, rule.text())
            self.assertEqual(again.text(), rule.text())
            self.assertEqual([stage.__class__ for stage in again.stages], [stage.__class__ for stage in rule.stages])
            self.assertTrue(again == rule)

    def test_point_17_keep(self):
        rule = Rule.read(ALPHABET, "keep")
        self.assertEqual((rule.stages, len(rule), rule.text()), ((), 0, "keep"))

    def test_point_17_keep_beside_other_pieces_and_nearly_keep(self):
        self.refused(1, "text", "keep; add a", "keep; keep", "keep; ", "keep ", " keep", "Keep", "keep;", "keep all")
        self.refused(2, "text", "add a; keep", "add a; keep; add b", "add a; keep; keep")
        self.refused(4, "text", "add a; add a; add a; keep")

    def test_point_17_empty_text_and_empty_pieces(self):
        self.refused(1, "text", "", " ", "; ", "; add a", "; ; ", "; add c")
        self.refused(2, "text", "add a; ", "add a; ; add b", "add a;  add b")
        self.refused(4, "text", "add a; add a; add a; ")

    def test_point_17_semicolons_that_do_not_part(self):
        self.refused(1, "text", ";", "add a;add b", "add a ; add b", "drop all;once all", "add a;\nadd b", ";add a")
        self.refused(1, "sign", "add a;", "add a;; add b", "add a;;")
        self.refused(1, "set", "drop all;", "once all;", "drop all;; add a")
        self.refused(2, "sign", "add a; add b;")
        self.refused(2, "text", "add a; ;", "add a; ; ")

    def test_point_17_each_what_in_each_place(self):
        wrong = {"drop": "text", "add c": "sign", "write ab for all": "sign", "once vowel": "set",
                 "drop none after 7": "set", "drop all after 4 each": "after", "drop all after each": "after"}
        for many in range(1, 5):
            for index in range(many):
                for piece, what in wrong.items():
                    pieces = ["add a", "drop all", "once [b]", "write a for all"][:many]
                    pieces[index] = piece
                    self.refused(index + 1, what, "; ".join(pieces))

    def test_point_17_the_first_wrong_piece_counts(self):
        self.refused(1, "sign", "add c; once none", "add c; drop", "add c; ; ; ; ; ")
        self.refused(2, "set", "add a; once none; add c; drop all after 9")

    def test_point_17_a_fifth_piece(self):
        four = "add a; add b; add a; add b"
        self.refused(5, "count", f"{four}; add a", f"{four}; keep", f"{four}; ", f"{four}; drop", f"{four}; add c",
                     f"{four}; once none", f"{four}; drop all after 4", f"{four}; add a; add a", f"{four}; ; ")
        self.assertEqual(Rule.read(ALPHABET, four)(""), "abab")

    def test_point_17_a_fifth_piece_behind_a_wrong_one(self):
        self.refused(1, "text", "keep; add a; add a; add a; add a", "; ; ; ; ")
        self.refused(3, "after", "add a; add a; drop all after 4; add a; add a")
        self.refused(4, "set", "add a; add a; add a; once none; add a", "add a; add a; add a; once none; drop; drop")

    def test_point_17_the_alphabet_counts(self):
        self.assertEqual(Rule.read(Alphabet("abc"), "add c; drop [bc]").text(), "add c; drop [bc]")
        self.refused(1, "sign", "add c; drop [bc]")
        self.refused(1, "set", "drop [bc]; add c")


class MadeTest(unittest.TestCase):
    def refused(self, call):
        with self.assertRaises(BadRule) as caught:
            call()
        self.assertEqual((caught.exception.stage, caught.exception.what), (5, "count"))

    def test_point_18_attributes(self):
        stages = (Add(ALPHABET, "a"), Drop(ALPHABET, "all"), Once(ALPHABET, "all"), Add(ALPHABET, "b"))
        for many in range(5):
            rule = Rule(ALPHABET, *stages[:many])
            self.assertIs(rule.stages.__class__, tuple)
            self.assertEqual([stage.text() for stage in rule.stages], [stage.text() for stage in stages[:many]])
            self.assertTrue(rule.alphabet == ALPHABET)
            self.assertEqual(len(rule), many)

    def test_point_18_more_than_four_stages(self):
        add = Add(ALPHABET, "a")
        for many in (5, 6, 9):
            self.refused(lambda: Rule(ALPHABET, *[add] * many))

    def test_point_18_another_alphabet(self):
        add = Add(ALPHABET, "a")
        for other in OTHERS:
            wrong = Add(other, "b")
            for stages in ([wrong], [wrong, add], [add, wrong], [add, add, add, wrong]):
                with self.assertRaises(Mixed):
                    Rule(ALPHABET, *stages)
            self.assertEqual(Rule(other, wrong).text(), "add b")

    def test_point_18_an_equal_alphabet_is_no_other_one(self):
        self.assertEqual(Rule(ALPHABET, Add(Alphabet("ab", "a"), "b"))("a"), "ab")

    def test_point_18_the_count_comes_before_mixed(self):
        wrong = Add(OTHERS[0], "b")
        self.refused(lambda: Rule(ALPHABET, *[wrong] * 5))
        self.refused(lambda: Rule(ALPHABET, *[Add(ALPHABET, "a")] * 4, wrong))

    def test_point_18_joined(self):
        pieces = ["add a", "drop vowels after 1", "once all", "write - for [b]"]
        for many in range(5):
            for split in range(many + 1):
                first = Rule.read(ALPHABET, "; ".join(pieces[:split]) or "keep")
                second = Rule.read(ALPHABET, "; ".join(pieces[split:many]) or "keep")
                both = first + second
                self.assertIs(both.__class__, Rule)
                self.assertEqual(both.text(), "; ".join(pieces[:many]) or "keep")
                self.assertEqual((len(first), len(second)), (split, many - split))
                for word in WORDS[::9]:
                    self.assertEqual(both(word), second(first(word)))

    def test_point_18_joined_too_many(self):
        for one, two in itertools.product(range(5), repeat=2):
            first, second = (Rule(ALPHABET, *[Add(ALPHABET, "a")] * many) for many in (one, two))
            if one + two > 4:
                self.refused(lambda: first + second)
            else:
                self.assertEqual(len(first + second), one + two)

    def test_point_18_joined_mixed_comes_before_the_count(self):
        first = Rule(ALPHABET, *[Add(ALPHABET, "a")] * 4)
        for other in OTHERS:
            for many in range(5):
                second = Rule(other, *[Add(other, "b")] * many)
                for one, two in ((first, second), (second, first), (Rule(ALPHABET), second)):
                    with self.assertRaises(Mixed):
                        one + two


class EqualTest(unittest.TestCase):
    def test_point_19_equal(self):
        for text in ("keep", "add a", "drop vowels after 1 each; once all", "add a; add a; add a; add a"):
            one, two = Rule.read(ALPHABET, text), Rule.read(Alphabet("ab", "a"), text)
            self.assertTrue(one == two)
            self.assertFalse(one != two)
        self.assertTrue(Rule(ALPHABET, Drop(ALPHABET, "all", after=2)) == Rule.read(ALPHABET, "drop all after 2"))

    def test_point_19_other_written_forms(self):
        texts = ["keep", "add a", "add b", "add a; add b", "add b; add a", "drop vowels", "drop [a]",
                 "drop vowels but last", "drop vowels each", "drop vowels after 1"]
        for one, two in itertools.permutations(texts, 2):
            self.assertFalse(Rule.read(ALPHABET, one) == Rule.read(ALPHABET, two))
            self.assertTrue(Rule.read(ALPHABET, one) != Rule.read(ALPHABET, two))

    def test_point_19_other_alphabets(self):
        for other in OTHERS:
            for text in ("keep", "add b", "drop vowels"):
                self.assertFalse(Rule.read(ALPHABET, text) == Rule.read(other, text))

    def test_point_19_things_that_are_no_rules(self):
        for other in ("keep", None, 0, (), ALPHABET):
            self.assertFalse(Rule(ALPHABET) == other)

    def test_point_19_texts_and_length(self):
        for rule, results in some_rules(40):
            self.assertEqual(str(rule), rule.text())
            self.assertEqual(repr(rule), f"Rule({rule.text()!r})")
            self.assertEqual(len(rule), len(results))
        self.assertEqual(repr(Rule.read(ALPHABET, "add a; drop all")), "Rule('add a; drop all')")
        self.assertEqual(repr(Rule(ALPHABET)), "Rule('keep')")


class SignBySignTest(unittest.TestCase):
    def rest(self, rule, state, word):
        pieces = []
        for sign in word:
            state, piece = rule.step(state, sign)
            pieces.append(piece)
        return "".join(pieces) + rule.end(state)

    def test_point_19_joined_texts_are_the_short_form(self):
        for rule, results in some_rules(200):
            with self.subTest(rule.text()):
                for word in WORDS:
                    self.assertEqual(self.rest(rule, rule.start(), word), plain_trace(word, results)[-1])

    def test_point_19_kinds_of_values(self):
        for rule, _ in some_rules(40):
            state = rule.start()
            for sign in "ab-ba--":
                pair = rule.step(state, sign)
                self.assertIs(pair.__class__, tuple)
                self.assertEqual(len(pair), 2)
                state, piece = pair
                self.assertIs(piece.__class__, str)
                self.assertIs(rule.end(state).__class__, str)

    def test_point_19_a_state_gives_the_same_again(self):
        for rule, results in some_rules(60):
            with self.subTest(rule.text()):
                for word in ("ab-", "aab", "--b", "bba", "-a-"):
                    self.stepped_again(rule, word, results)

    def stepped_again(self, rule, word, results):
        states, pieces = [rule.start()], []
        for sign in word:
            before = states[-1]
            ended = rule.end(before)
            for other in ALPHABET.signs:
                first = rule.step(before, other)
                rule.step(first[0], sign)
                rule.end(first[0])
                self.assertEqual(rule.step(before, other), first)
            self.assertEqual(rule.end(before), ended)
            state, piece = rule.step(before, sign)
            states.append(state)
            pieces.append(piece)
        for index, state in enumerate(states):
            for more in ("", "a", "b", "-", "ab", "-a", "aa", "b-"):
                whole = "".join(pieces[:index]) + self.rest(rule, state, more)
                self.assertEqual(whole, plain_trace(word[:index] + more, results)[-1])

    def test_point_19_two_words_by_turns(self):
        for rule, results in some_rules(60):
            for pair in (("aab-b", "b--aa"), ("--", "ab"), ("abab", "aaaa")):
                states = [rule.start(), rule.start()]
                found = ["", ""]
                for signs in itertools.zip_longest(*pair):
                    for index, sign in enumerate(signs):
                        if sign is not None:
                            states[index], piece = rule.step(states[index], sign)
                            found[index] += piece
                        rule(pair[index])
                found = [text + rule.end(state) for text, state in zip(found, states)]
                self.assertEqual(found, [plain_trace(word, results)[-1] for word in pair])


class CopyTest(unittest.TestCase):
    def test_point_1_arguments_are_not_modified_and_are_copied(self):
        alphabet = Alphabet("ba", "a")
        before = dict(vars(alphabet))
        rule = Rule.read(alphabet, "drop vowels; add b")
        joined = rule + Rule(alphabet)
        rule.trace("ab")
        self.assertEqual(vars(alphabet), before)
        alphabet.letters = alphabet.signs = alphabet.vowels = "x"
        for kept in (rule, joined):
            self.assertTrue(kept.alphabet == ALPHABET)
            self.assertEqual(kept("ab"), "bb")


class InterfaceTest(unittest.TestCase):
    def test_names(self):
        self.assertEqual(Rule.__module__, "cliplore.rules")
        self.assertEqual(Rule.MOST, 4)
        self.assertEqual(str(inspect.signature(Rule)), "(alphabet, *stages)")
        self.assertIsInstance(vars(Rule)["read"], classmethod)
        self.assertEqual(str(inspect.signature(rules.Rule.read)), "(alphabet, text)")
        expected = {"text": "(self)", "trace": "(self, word)", "start": "(self)", "step": "(self, state, sign)",
                    "end": "(self, state)", "__call__": "(self, word)"}
        for method, signature in expected.items():
            self.assertEqual(str(inspect.signature(vars(Rule)[method])), signature)
        for method in ("__eq__", "__add__", "__len__", "__str__", "__repr__"):
            self.assertIn(method, vars(Rule))

    def test_arguments_by_keyword(self):
        self.assertEqual(Rule.read(alphabet=ALPHABET, text="add a").trace(word="b"), ["b", "ba"])


if __name__ == "__main__":
    unittest.main()
