"""Clashes of one rule: points 38 to 40."""

import copy
import inspect
import itertools
import random
import unittest

from cliplore import clashing
from cliplore.clashing import check_apart, decide
from cliplore.errors import Mixed
from cliplore.machines import machine_of
from cliplore.rules import Rule
from cliplore.signs import Alphabet
from cliplore.stocks import Stock
from tests import plain_stages
from tests.plain_rows import apart_holds, apart_rows, fewest_signs, following, shortlex, start_rows
from tests.plain_tables import random_table
from tests.test_machine_of import random_rules

ALPHABET = Alphabet("ba", "a")
OTHERS = (Alphabet("ba"), Alphabet("ba", "ab"), Alphabet("b"), Alphabet("ac", "a"), Alphabet("abc", "a"))
WORDS = list(plain_stages.words("-ab", 6))
SHAPES = ("S*", "(CV)+C?", "(CV)+", "L+(-L+)*", "CVC?|J", "(a|b-)*b", "a?b?-?a?b?", "V+C*", "a", "(ba|bba)*", "a*b-")


def read(text):
    return Rule.read(ALPHABET, text)


def some_stocks(seed, number):
    chance = random.Random(seed)
    yield Stock.listed(ALPHABET, [])
    yield Stock.listed(ALPHABET, [""])
    yield Stock.listed(ALPHABET, ["ab-ba"])
    for shape in SHAPES:
        yield Stock.shaped(ALPHABET, shape)
    for _ in range(number):
        yield Stock(ALPHABET, *random_table(chance, 4))
        yield Stock.listed(ALPHABET, chance.sample(WORDS, 5))


def cases(seed, rules, stocks):
    """Each of some rules with some of the stocks."""
    every = list(some_stocks(seed, stocks))
    for number, rule in enumerate(random_rules(seed, rules, 2)):
        for stock in every[number % 3::3]:
            yield rule, stock


class DecideTest(unittest.TestCase):
    def is_clash(self, rule, stock, one, two):
        self.assertIn(one, stock)
        self.assertIn(two, stock)
        self.assertNotEqual(one, two)
        self.assertEqual(rule(one), rule(two))
        self.assertLess(shortlex(one), shortlex(two))

    def is_right(self, rule, stock):
        """Checks what decide tells against all pairs of short words, and returns its first word."""
        told = decide(rule, stock)
        self.assertIs(told.__class__, tuple)
        with self.subTest(f"{rule} / {stock.rows} {stock.goods}"):
            fewest = fewest_signs(rule, [word for word in WORDS if word in stock])
            if told[0] == "clash":
                self.assertEqual(len(told), 3)
                self.is_clash(rule, stock, *told[1:])
                many = len(told[1] + told[2])
                # Two words with at most six signs in total are short ones.
                self.assertTrue(fewest is None and many > 6 or fewest is not None and many <= fewest)
                self.assertTrue(many <= 6 or fewest is None or fewest > 6)
            else:
                self.assertEqual(told, ("apart", apart_rows(machine_of(rule, stock))))
                self.assertIsNone(fewest)
        return told[0]

    def test_point_39_against_all_pairs_of_short_words(self):
        kinds = [self.is_right(rule, stock) for rule, stock in cases(39, 60, 10)]
        self.assertGreater(kinds.count("clash"), 100)
        self.assertGreater(kinds.count("apart"), 100)

    def test_point_39_every_single_stage_on_every_word(self):
        every = Stock.every(ALPHABET)
        for stage, _ in plain_stages.every_stage(ALPHABET):
            self.is_right(Rule(ALPHABET, stage), every)

    def test_point_39_the_table_holds(self):
        for rule, stock in cases(40, 30, 6):
            told = decide(rule, stock)
            if told[0] == "apart":
                self.assertEqual(told[1], sorted(set(told[1])))
                self.assertEqual([row.__class__ for row in told[1]], [tuple] * len(told[1]))
                self.assertIs(check_apart(rule, stock, told[1]), True)

    def test_point_39_the_least_number_of_signs_in_total(self):
        # The shortest word that clashes with another one is not the shortest pair.
        stock = Stock.listed(ALPHABET, ["b", "b" + "a" * 9, "bbb", "bbba", "ab-"])
        self.assertEqual(decide(read("drop vowels"), stock), ("clash", "bbb", "bbba"))
        stock = Stock.listed(ALPHABET, ["", "aaaaaaaa", "bb-", "bb-a", "b-", "ab-aaaa"])
        self.assertEqual(decide(read("drop vowels"), stock), ("clash", "bb-", "bb-a"))
        stock = Stock.listed(ALPHABET, ["", "aaaaaa", "bb-", "bb-a", "b-", "ab-aaaa"])
        self.assertEqual(decide(read("drop vowels"), stock), ("clash", "", "aaaaaa"))

    def test_point_39_in_shortlex_order(self):
        self.assertEqual(decide(read("drop vowels"), Stock.listed(ALPHABET, ["b", "ab"])), ("clash", "b", "ab"))
        self.assertEqual(decide(read("drop joints"), Stock.listed(ALPHABET, ["b--", "-b-"])), ("clash", "-b-", "b--"))
        self.assertEqual(decide(read("drop letters"), Stock.listed(ALPHABET, ["bab-", "-b"])), ("clash", "-b", "bab-"))

    def test_point_39_the_empty_word_clashes(self):
        self.assertEqual(decide(read("drop all"), Stock.every(ALPHABET))[:2], ("clash", ""))
        self.assertEqual(decide(read("drop vowels"), Stock.shaped(ALPHABET, "V?")), ("clash", "", "a"))
        self.assertEqual(decide(read("drop vowels; add a"), Stock.shaped(ALPHABET, "V?")), ("clash", "", "a"))

    def test_point_39_long_words_clash(self):
        # The lengths are 8, 11, 14 .. of one kind, and 9, 13, 17 .. of the other; only words of the same kind clash.
        stock = Stock.shaped(ALPHABET, "a(aaa)+b") | Stock.shaped(ALPHABET, "b(bbbb)+a")
        kind, one, two = decide(read("drop all after 2 but last"), stock - Stock.shaped(ALPHABET, "S?S?S?S?S?S?S?"))
        self.assertEqual((kind, one, two), ("clash", "aaaaaaab", "aaaaaaaaaab"))
        rows = [[-1, place + 1 if place < 29 else 29, -1] for place in range(30)]
        stock = Stock(ALPHABET, rows, [place == 29 for place in range(30)])
        self.assertEqual(decide(read("once all"), stock), ("clash", "a" * 29, "a" * 30))

    def test_point_39_apart_on_infinite_stocks(self):
        for text, shape in (("drop vowels", "(CV)+"), ("keep", "S*"), ("add b", "S*"), ("once all", "(ab)*a?"),
                            ("drop joints", "L*"), ("drop [a] after 1", "a?b*"), ("drop [b] but last", "a*b"),
                            ("write a for [b]", "(aab)*"), ("drop joints", "L+JL")):
            self.assertEqual(self.is_right(read(text), Stock.shaped(ALPHABET, shape)), "apart", (text, shape))
        self.assertEqual(decide(read("drop vowels"), Stock.shaped(ALPHABET, "(CV)+")), ("apart", [(-1, 1, "", "b")]))
        self.assertEqual(decide(Rule(ALPHABET), Stock.every(ALPHABET)),
                         ("apart", [(-1, 0, "", "-"), (-1, 0, "", "a"), (-1, 0, "", "b")]))

    def test_point_39_texts_that_remain_for_long(self):
        # The words (ab)* and a(ba)* stay one sign apart for as long as they go on.
        stock = Stock.shaped(ALPHABET, "(ab)*|-(ba)*")
        for text in ("write a for joints", "drop joints", "keep", "write b for joints", "drop [b]", "drop all after 3"):
            self.is_right(read(text), stock)

    def test_point_39_no_word_and_one_word(self):
        for rule in random_rules(41, 20, 3):
            self.assertEqual(decide(rule, Stock.listed(ALPHABET, [])), ("apart", []))
            for word in ("", "a", "-", "ab-ba", "b" * 60):
                self.assertEqual(decide(rule, Stock.listed(ALPHABET, [word])), ("apart", []))

    def test_point_39_mixed(self):
        for other in OTHERS:
            for one, two in ((ALPHABET, other), (other, ALPHABET)):
                for stock in (Stock.every(two), Stock.listed(two, [])):
                    with self.assertRaises(Mixed):
                        decide(Rule(one), stock)
                    with self.assertRaises(Mixed):
                        check_apart(Rule(one), stock, [])

    def test_point_1_the_lists_are_fresh(self):
        stock = Stock.shaped(ALPHABET, "(CV)+")
        decide(read("drop vowels"), stock)[1].clear()
        self.assertEqual(decide(read("drop vowels"), stock)[1], [(-1, 1, "", "b")])


class RowsTest(unittest.TestCase):
    def test_point_38_the_options_in_their_order(self):
        # The word ends before each sign, the joint comes before the letters.
        stock = Stock.listed(ALPHABET, ["", "-a", "a-", "bb"])
        machine = machine_of(Rule(ALPHABET), stock)
        self.assertEqual((machine.first, machine.rows[0], machine.ends[0]),
                         ("", [(1, "-a"), (2, "a-"), (3, "bb")], ""))
        self.assertEqual(decide(Rule(ALPHABET), stock),
                         ("apart", [(-1, 1, "", "-a"), (-1, 2, "", "a-"), (-1, 3, "", "bb")]))

    def test_point_38_texts_are_reduced(self):
        stock = Stock.listed(ALPHABET, ["a", "ab", "ba", "-b"])
        rule = read("write a for [b]; drop joints")
        told = decide(rule, stock)
        self.assertEqual(told[0], "clash")
        stock = Stock.listed(ALPHABET, ["a", "ab", "baa"])
        machine = machine_of(rule, stock)
        self.assertEqual(decide(rule, stock), ("apart", apart_rows(machine)))
        self.assertTrue(all(row[2] == "" or row[3] == "" for row in start_rows(machine)))

    def test_point_38_the_left_word_goes_on_first(self):
        # Where both texts are empty the word on the left goes on, even if that on the right has not ended.
        rule, stock = read("write b for joints"), Stock.listed(ALPHABET, ["a", "-a", "-b", "baa", "bba"])
        machine = machine_of(rule, stock)
        self.assertEqual(machine.rows[0], [(1, "b"), (2, "a"), (3, "b")])
        kind, rows = decide(rule, stock)
        self.assertEqual((kind, rows), ("apart", apart_rows(machine)))
        # The left word has the texts "a" and "b" behind place 1, and the right one has the texts "aa" and "ba".
        self.assertIn((1, 3, "", ""), rows)
        self.assertIn((2, 3, "a", ""), rows)
        self.assertIn((2, 3, "b", ""), rows)


class CheckTest(unittest.TestCase):
    def told(self, rule, stock, rows):
        before = copy.deepcopy(rows)
        found = check_apart(rule, stock, rows)
        self.assertEqual(rows, before)
        self.assertIs(found, apart_holds(machine_of(rule, stock), rows))
        return found

    def apart_cases(self):
        for rule, stock in cases(42, 60, 6):
            told = decide(rule, stock)
            if told[0] == "apart" and len(told[1]) < 60:
                yield rule, stock, told[1]

    def test_point_40_in_any_order_and_with_duplicates(self):
        chance = random.Random(40)
        for rule, stock, rows in self.apart_cases():
            mixed = [*rows, *rows[:2]]
            chance.shuffle(mixed)
            self.assertIs(self.told(rule, stock, mixed), True)

    def test_point_40_a_row_left_out(self):
        checked = 0
        for rule, stock, rows in self.apart_cases():
            for index in range(len(rows)):
                self.assertIs(self.told(rule, stock, rows[:index] + rows[index + 1:]), False)
                checked += 1
        self.assertGreater(checked, 100)

    def test_point_40_further_rows(self):
        rule, stock = read("drop vowels"), Stock.shaped(ALPHABET, "(CV)+")
        rows = [(-1, 1, "", "b")]
        for more, expected in (((-1, -1, "", "b"), True), ((-1, -1, "ab", ""), True), ((-1, -1, "", ""), False),
                               ((-1, 0, "", "a"), True), ((0, -1, "x", ""), True), ((1, -1, "b", ""), True),
                               ((2, -1, "", ""), False), ((-1, 2, "", ""), False), ((2, -1, "b", ""), True),
                               ((2, 2, "", ""), False), ((0, 0, "a", "b"), False), ((0, 1, "b", "b"), False),
                               ((3, -1, "b", ""), False), ((-2, -1, "b", ""), False), ((-1, 3, "", "b"), False),
                               ((-1, -2, "b", ""), False), ((99, 0, "", ""), False), ((-1, -1, "b", "b"), False)):
            with self.subTest(more):
                self.assertIs(self.told(rule, stock, [*rows, more]), expected)
                self.assertIs(self.told(rule, stock, [more, *rows]), expected)
                self.assertIs(self.told(rule, stock, [more]), False)

    def test_point_40_following_rows_of_further_rows(self):
        rule, stock = Rule(ALPHABET), Stock.shaped(ALPHABET, "a*b")
        rows = decide(rule, stock)[1]
        machine = machine_of(rule, stock)
        for more in itertools.product(range(-1, len(machine)), range(-1, len(machine)), ["", "a", "b", "ab"], [""]):
            expected = more != (-1, -1, "", "") and all(row in [*rows, more] for row in following(machine, more))
            self.assertIs(self.told(rule, stock, [*rows, more]), expected)
            turned = (more[1], more[0], more[3], more[2])
            self.told(rule, stock, [*rows, turned])

    def test_point_40_no_word_and_one_word(self):
        for stock in (Stock.listed(ALPHABET, []), Stock.listed(ALPHABET, ["ab"])):
            rule = read("once all")
            self.assertIs(self.told(rule, stock, []), True)
            self.assertIs(self.told(rule, stock, [(-1, -1, "", "a")]), True)
            self.assertIs(self.told(rule, stock, [(-1, -1, "", "")]), False)
            self.assertIs(self.told(rule, stock, [(0, 9, "", "")]), False)
        # A stock without words has a place without options, so nothing follows.
        nothing = Stock.listed(ALPHABET, [])
        for row in ((0, 0, "", ""), (0, -1, "", ""), (-1, 0, "", ""), (0, -1, "", "b")):
            self.assertIs(self.told(read("once all"), nothing, [row]), True)

    def test_point_40_rules_with_clashes(self):
        checked = 0
        for rule, stock in cases(43, 30, 6):
            if decide(rule, stock)[0] == "clash":
                rows = apart_rows(machine_of(rule, stock))
                self.assertIs(self.told(rule, stock, rows), False)
                self.assertIs(self.told(rule, stock, [row for row in rows if row != (-1, -1, "", "")]), False)
                self.assertIs(self.told(rule, stock, []), False)
                checked += 1
        self.assertGreater(checked, 30)

    def test_point_40_changed_tables(self):
        chance = random.Random(44)
        for rule, stock, rows in self.apart_cases():
            size = len(machine_of(rule, stock))
            for _ in range(3):
                more = [(chance.randrange(-1, size), chance.randrange(-1, size), *chance.choice(
                    [("", ""), ("a", ""), ("", "b"), ("ab", ""), ("", "-")])) for _ in range(chance.randint(1, 2))]
                self.told(rule, stock, [*rows, *more])


class InterfaceTest(unittest.TestCase):
    def test_the_interface(self):
        for name, arguments in (("decide", "(rule, stock)"), ("check_apart", "(rule, stock, rows)")):
            function = getattr(clashing, name)
            self.assertEqual(function.__module__, "cliplore.clashing")
            self.assertEqual(str(inspect.signature(function)), arguments)


if __name__ == "__main__":
    unittest.main()
