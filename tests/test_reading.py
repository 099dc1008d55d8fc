"""What a short form means: points 41 to 43."""

import inspect
import itertools
import random
import unittest

from cliplore import reading
from cliplore.errors import BadWord, Mixed
from cliplore.reading import how_many, meanings, reach
from cliplore.rules import Rule
from cliplore.signs import Alphabet
from cliplore.stocks import Stock
from tests import plain_stages
from tests.plain_tables import random_table
from tests.test_machine_of import random_rules

ALPHABET = Alphabet("ba", "a")
OTHERS = (Alphabet("ba"), Alphabet("ba", "ab"), Alphabet("b"), Alphabet("ac", "a"), Alphabet("abc", "a"))
EIGHT = Alphabet("abcdefgh", "ae")
WORDS = list(plain_stages.words("-ab", 6))
SHORTS = ("", "a", "b", "-", "bb", "ab", "a-", "bba", "--", "-b-a", "bbbb", "aaaaa")
SHAPES = ("S*", "(CV)+C?", "CV?C", "L+(-L+)*", "CVC?|J", "(a|b-)*b", "a?b?-?a?b?", "V+C*", "a", "a*b*")
FOREIGN = ("c", "abc", "a b", " ", "A", "ab\n", "a_b", "\u00e4", "-?")


def read(text):
    return Rule.read(ALPHABET, text)


def some_stocks(seed, number):
    chance = random.Random(seed)
    yield Stock.listed(ALPHABET, [])
    yield Stock.listed(ALPHABET, [""])
    yield Stock.listed(ALPHABET, ["abba", "bb", "b-b"])
    for shape in SHAPES:
        yield Stock.shaped(ALPHABET, shape)
    for _ in range(number):
        yield Stock(ALPHABET, *random_table(chance, 4))


def cases(seed, rules, stocks):
    """Each of some rules with some of the stocks, and the words of the stock by their short forms."""
    every = [(stock, [word for word in WORDS if word in stock]) for stock in some_stocks(seed, stocks)]
    for number, rule in enumerate(random_rules(seed, rules, 3)):
        shorts = {word: rule(word) for word in WORDS}
        for stock, words in every[number % 4::4]:
            yield rule, stock, lambda short: [word for word in words if shorts[word] == short]


class MeaningsTest(unittest.TestCase):
    def test_point_41_against_all_short_words(self):
        found = 0
        for rule, stock, meant in cases(41, 32, 4):
            for short in SHORTS:
                words = meant(short)
                found += len(words)
                with self.subTest(f"{rule} / {stock.rows} {stock.goods} / {short}"):
                    self.assertEqual(list(meanings(rule, stock, short, most=6)), words)
                    for most in (-1, 0, 2, 5):
                        expected = [word for word in words if len(word) <= most]
                        self.assertEqual(list(meanings(rule, stock, short, most=most)), expected)
        self.assertGreater(found, 2000)

    def test_point_41_at_most_six_signs_if_most_is_left_out(self):
        for rule, stock, meant in cases(42, 20, 4):
            for short in SHORTS[:5]:
                expected = [word for word in meant(short) if len(word) <= 6]
                self.assertEqual(list(meanings(rule, stock, short)), expected)
                self.assertEqual(how_many(rule, stock, short), len(expected))
        self.assertEqual(how_many(read("drop all"), Stock.every(ALPHABET), ""), (3 ** 7 - 1) // 2)
        self.assertEqual(list(meanings(read("drop vowels"), Stock.shaped(ALPHABET, "V+"), "")),
                         ["a", "aa", "aaa", "aaaa", "aaaaa", "aaaaaa"])

    def test_point_41_shortlex_order(self):
        self.assertEqual(list(meanings(read("drop vowels"), Stock.every(ALPHABET), "b", most=3)),
                         ["b", "ab", "ba", "aab", "aba", "baa"])
        self.assertEqual(list(meanings(read("drop vowels"), Stock.shaped(ALPHABET, "CV?C"), "bb")), ["bb", "bab"])
        alphabet = Alphabet("zam", "a")
        self.assertEqual(list(meanings(Rule.read(alphabet, "drop letters"), Stock.every(alphabet), "-", most=2)),
                         ["-", "-a", "-m", "-z", "a-", "m-", "z-"])

    def test_point_41_negative_and_zero(self):
        rule, every = read("drop vowels"), Stock.every(ALPHABET)
        for most in (-1, -2, -60):
            self.assertEqual(list(meanings(rule, every, "", most=most)), [])
            self.assertEqual(how_many(rule, every, "", most=most), 0)
        self.assertEqual(list(meanings(rule, every, "", most=0)), [""])
        self.assertEqual(how_many(rule, every, "", most=0), 1)
        self.assertEqual(list(meanings(rule, every, "b", most=0)), [])
        self.assertEqual(how_many(rule, every, "b", most=0), 0)

    def test_point_41_a_generator(self):
        self.assertTrue(inspect.isgeneratorfunction(meanings))
        walk = meanings(Rule.read(EIGHT, "drop vowels"), Stock.every(EIGHT), "bcd", most=60)
        self.assertTrue(inspect.isgenerator(walk))
        # The walk is broken off: nobody could list all of these words.
        self.assertEqual(list(itertools.islice(walk, 6)), ["bcd", "abcd", "bacd", "bcad", "bcda", "bcde"])

    def test_point_41_two_walks_by_turns(self):
        rule, stock = read("once letters"), Stock.shaped(ALPHABET, "L+J?L*")
        expected = list(meanings(rule, stock, "ab"))
        self.assertGreater(len(expected), 10)
        pairs = list(zip(meanings(rule, stock, "ab"), meanings(rule, stock, "ab")))
        self.assertEqual(pairs, [(word, word) for word in expected])
        one, two = meanings(rule, stock, "ab"), meanings(rule, stock, "a")
        self.assertEqual([next(one), next(one), next(two), next(one)], [*expected[:2], "a", expected[2]])

    def test_point_41_how_many_against_all_short_words(self):
        for rule, stock, meant in cases(43, 24, 4):
            for short in SHORTS[:8]:
                sizes = [len(word) for word in meant(short)]
                for most in (-1, 0, 2, 6):
                    self.assertEqual(how_many(rule, stock, short, most=most), len([s for s in sizes if s <= most]))

    def test_point_41_how_many_up_to_sixty(self):
        every = Stock.every(ALPHABET)
        self.assertEqual(how_many(read("drop all"), every, "", most=60), (3 ** 61 - 1) // 2)
        self.assertEqual(how_many(Rule.read(EIGHT, "drop all"), Stock.every(EIGHT), "", most=60), (9 ** 61 - 1) // 8)
        self.assertEqual(how_many(read("drop letters"), every, "", most=60), 2 ** 61 - 1)
        # One of the places of each word has the consonant, all others have a vowel.
        self.assertEqual(how_many(read("drop vowels"), every, "b", most=60), 60 * 61 // 2)
        self.assertEqual(how_many(read("drop all after 2"), every, "ab", most=60), (3 ** 59 - 1) // 2)
        self.assertEqual(how_many(read("keep"), every, "ab" * 30, most=60), 1)
        self.assertEqual(how_many(read("keep"), every, "ab" * 30, most=59), 0)
        self.assertEqual(how_many(read("add a"), every, "ab" * 29 + "ba", most=59), 1)

    def test_point_41_no_words(self):
        nothing = Stock.listed(ALPHABET, [])
        for rule in random_rules(44, 10, 3):
            for short in SHORTS:
                self.assertEqual(list(meanings(rule, nothing, short)), [])
                self.assertEqual(how_many(rule, nothing, short, most=60), 0)
                self.assertEqual(reach(rule, nothing, short), ("none",))


class ReachTest(unittest.TestCase):
    def is_right(self, rule, stock, short, words):
        """Checks reach, where these are the meanings of at most six signs. Returns what kind it is."""
        told = reach(rule, stock, short)
        self.assertIs(told.__class__, tuple)
        with self.subTest(f"{rule} / {stock.rows} {stock.goods} / {short}: {told}"):
            if told[0] == "none":
                self.assertEqual((told, words), (("none",), []))
            elif told[0] == "most":
                self.assertEqual(len(told), 2)
                self.assertLessEqual(max(map(len, words), default=0), told[1])
                self.assertTrue(told[1] > 6 or max(map(len, words)) == told[1])
                counts = [how_many(rule, stock, short, most=told[1] + more) for more in (-1, 0, 1, 20)]
                self.assertTrue(counts[0] < counts[1] == counts[2] == counts[3])
            else:
                kind, a, b, c = told
                self.assertEqual(kind, "loop")
                self.assertNotEqual(b, "")
                for many in range(7):
                    self.assertIn(a + b * many + c, stock)
                    self.assertEqual(rule(a + b * many + c), short)
        return told[0]

    def test_point_42_against_all_short_words(self):
        kinds = []
        for rule, stock, meant in cases(45, 60, 8):
            for short in SHORTS:
                kinds.append(self.is_right(rule, stock, short, meant(short)))
        for kind in ("none", "most", "loop"):
            self.assertGreater(kinds.count(kind), 100)

    def test_point_42_none(self):
        self.assertEqual(reach(read("drop vowels"), Stock.every(ALPHABET), "a"), ("none",))
        self.assertEqual(reach(read("add a"), Stock.every(ALPHABET), ""), ("none",))
        self.assertEqual(reach(read("keep"), Stock.shaped(ALPHABET, "V+"), "b"), ("none",))
        self.assertEqual(reach(read("add a"), Stock.every(ALPHABET), "ab"), ("none",))

    def test_point_42_most(self):
        for word in ("", "a", "ab-", "ab" * 30):
            self.assertEqual(reach(read("keep"), Stock.every(ALPHABET), word), ("most", len(word)))
            self.assertEqual(reach(read("add b"), Stock.every(ALPHABET), word + "b"), ("most", len(word)))
        self.assertEqual(reach(read("drop vowels"), Stock.shaped(ALPHABET, "CV?C"), "bb"), ("most", 3))
        self.assertEqual(reach(read("drop vowels"), Stock.shaped(ALPHABET, "CV?V?CV?|CC"), "bb"), ("most", 5))
        # The meanings go on, but not those of this short form.
        self.assertEqual(reach(read("drop vowels"), Stock.shaped(ALPHABET, "(CV)*"), "bbb"), ("most", 6))
        self.assertEqual(reach(read("drop vowels"), Stock.shaped(ALPHABET, "(CV)*"), ""), ("most", 0))

    def test_point_42_the_longest_one_has_a_detour(self):
        stock = Stock.listed(ALPHABET, ["b" + "a" * 40, "ab", "aaab" + "a" * 30, "b-", "-b"])
        self.assertEqual(reach(read("drop vowels"), stock, "b"), ("most", 41))
        self.assertEqual(reach(read("drop vowels"), stock, "b-"), ("most", 2))

    def test_point_42_loop(self):
        for text, shape, short in (("drop vowels", "S*", "b"), ("drop all", "S*", ""), ("once all", "a+b+", "ab"),
                                   ("drop all after 3", "(ba)+", "bab"), ("drop joints", "a-+b", "ab"),
                                   ("drop all after 2 but last", "ab(ab)*-", "ab-"), ("once [b]", "ab*", "ab")):
            self.assertEqual(self.is_right(read(text), Stock.shaped(ALPHABET, shape), short, []), "loop")
        told = reach(read("drop vowels"), Stock.shaped(ALPHABET, "ba*b"), "bb")
        self.assertEqual((told[0], told[2]), ("loop", "a" * len(told[2])))

    def test_point_42_a_loop_behind_a_long_way(self):
        rows = [[-1, place + 1, -1] for place in range(50)] + [[-1, -1, 51], [-1, 51, 50]]
        stock = Stock(ALPHABET, rows, [False] * 51 + [True])
        self.assertEqual(self.is_right(read("once letters"), stock, "ab", []), "loop")
        self.assertEqual(self.is_right(read("drop all after 1"), stock, "a", []), "loop")
        self.assertEqual(self.is_right(read("keep"), stock, "a" * 50 + "b" + "a" * 9, []), "most")

    def test_point_42_a_loop_beside_long_words(self):
        # The last places of the table have nothing to do with the loop.
        for shape in ("J*|abbab", "b*a|-a-aaa", "(ab)*|bbbbb"):
            self.assertEqual(self.is_right(read("drop all"), Stock.shaped(ALPHABET, shape), "", []), "loop")
        self.assertEqual(reach(read("drop all"), Stock.shaped(ALPHABET, "J?J?|abbab"), ""), ("most", 5))

    def test_point_42_short_forms_of_sixty_signs(self):
        short = "ab" * 30
        self.assertEqual(self.is_right(read("drop joints"), Stock.every(ALPHABET), short, []), "loop")
        self.assertEqual(reach(read("drop joints"), Stock.shaped(ALPHABET, "L*J?"), short), ("most", 61))


class WrongTest(unittest.TestCase):
    def calls(self, rule, stock, short):
        for most in (-1, 0, 6):
            yield lambda: list(meanings(rule, stock, short, most=most))
            yield lambda: how_many(rule, stock, short, most=most)
        yield lambda: reach(rule, stock, short)

    def test_point_43_foreign_strings(self):
        for stock in (Stock.every(ALPHABET), Stock.listed(ALPHABET, []), Stock.listed(ALPHABET, ["ab"])):
            for short in FOREIGN:
                for rule in (read("keep"), read("drop all; add a")):
                    for call in self.calls(rule, stock, short):
                        with self.assertRaises(BadWord) as caught:
                            call()
                        self.assertEqual(caught.exception.word, short)

    def test_point_43_mixed_is_raised_first(self):
        for other in OTHERS:
            for one, two in ((ALPHABET, other), (other, ALPHABET)):
                for short in ("", "a", "?", "-c"):
                    for stock in (Stock.every(two), Stock.listed(two, [])):
                        for call in self.calls(Rule(one), stock, short):
                            with self.assertRaises(Mixed):
                                call()

    def test_point_43_meanings_raises_when_it_is_iterated_over(self):
        for short, stock, error in (("?", Stock.every(ALPHABET), BadWord), ("a", Stock.every(OTHERS[0]), Mixed)):
            walk = meanings(read("keep"), stock, short)
            with self.assertRaises(error):
                next(walk)

    def test_point_1_arguments_are_not_modified(self):
        rule, stock = read("drop vowels; once all"), Stock.shaped(ALPHABET, "(CV)+C?")
        before = repr([str(rule), stock.rows, stock.goods])
        for call in self.calls(rule, stock, "b"):
            call()
        self.assertEqual(repr([str(rule), stock.rows, stock.goods]), before)

    def test_the_interface(self):
        for name, arguments in (("meanings", "(rule, stock, short, *, most=6)"),
                                ("how_many", "(rule, stock, short, *, most=6)"), ("reach", "(rule, stock, short)")):
            function = getattr(reading, name)
            self.assertEqual(function.__module__, "cliplore.reading")
            self.assertEqual(str(inspect.signature(function)), arguments)


if __name__ == "__main__":
    unittest.main()
