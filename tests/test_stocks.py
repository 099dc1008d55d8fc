"""Stocks and their tables: points 20 to 23."""

import copy
import inspect
import itertools
import random
import unittest

from cliplore.errors import BadTable, BadWord
from cliplore.signs import Alphabet
from cliplore.stocks import Stock
from tests import plain_stages
from tests.plain_tables import accepted, check_least, led, random_table, spoiled

ALPHABET = Alphabet("ba", "a")
WORDS = list(plain_stages.words("-ab", 6))
NO_WORDS = ([[-1, -1, -1]], [False])


class LeastTableTest(unittest.TestCase):
    def made(self, rows, goods, expected_rows, expected_goods):
        stock = Stock(ALPHABET, rows, goods)
        self.assertEqual((stock.rows, stock.goods), (expected_rows, expected_goods))
        check_least(self, stock)

    def test_point_20_a_word_belongs_by_its_steps(self):
        chance = random.Random(20)
        for _ in range(150):
            rows, goods = random_table(chance, 6)
            stock = Stock(ALPHABET, rows, goods)
            for word in WORDS[:400]:
                self.assertEqual(word in stock, accepted(rows, goods, "-ab", word))

    def test_point_21_conditions(self):
        chance = random.Random(21)
        for _ in range(200):
            check_least(self, Stock(ALPHABET, *random_table(chance, 6)))

    def test_point_21_one_least_table_for_each_set_of_words(self):
        chance = random.Random(22)
        for _ in range(200):
            rows, goods = random_table(chance, 6)
            stock = Stock(ALPHABET, rows, goods)
            for _ in range(3):
                other = Stock(ALPHABET, *spoiled(chance, rows, goods))
                self.assertEqual((other.rows, other.goods), (stock.rows, stock.goods))
                self.assertTrue(other == stock)
            again = Stock(ALPHABET, stock.rows, stock.goods)
            self.assertEqual((again.rows, again.goods), (stock.rows, stock.goods))

    def test_point_21_places_that_no_word_reaches(self):
        self.made([[0, -1, 0], [1, 0, 2], [2, 2, 2]], [True, True, False], [[0, -1, 0]], [True])

    def test_point_21_places_that_lead_to_nothing_good(self):
        self.made([[2, 1, -1], [-1, -1, -1], [2, 3, -1], [3, 3, 2]], [False, True, False, False],
                  [[-1, 1, -1], [-1, -1, -1]], [False, True])

    def test_point_21_places_that_accept_the_same(self):
        self.made([[-1, 1, 2], [3, -1, -1], [4, -1, -1], [-1, -1, -1], [-1, -1, -1]],
                  [False, False, False, True, True],
                  [[-1, 1, 1], [2, -1, -1], [-1, -1, -1]], [False, False, True])
        self.made([[1, 0, 1], [0, 1, 0]], [True, True], [[0, 0, 0]], [True])

    def test_point_21_the_order_of_the_places(self):
        self.made([[3, 2, 1], [-1, -1, -1], [-1, 1, -1], [-1, -1, 1]], [False, True, False, False],
                  [[1, 2, 3], [-1, -1, 3], [-1, 3, -1], [-1, -1, -1]], [False, False, False, True])

    def test_point_21_a_shorter_first_word_comes_first(self):
        # "b" leads to place 1, and the longer "--" to place 2, although "-" is the lower sign.
        self.made([[2, -1, 1], [-1, -1, -1], [3, -1, -1], [-1, 3, -1]], [True, True, True, True],
                  [[1, -1, 2], [3, -1, -1], [-1, -1, -1], [-1, 3, -1]], [True, True, True, True])

    def test_point_21_the_stock_without_words(self):
        for rows, goods in (([[-1, -1, -1]], [False]), ([[0, 0, 0]], [False]),
                            ([[1, 0, 0], [0, 1, 1]], [False, False]), ([[0, -1, 0], [1, 1, 1]], [False, True])):
            self.made(rows, goods, *NO_WORDS)

    def test_point_21_large_tables(self):
        many = 3000
        cycle = [[(place + 1) % many] * 3 for place in range(many)]
        self.assertEqual(len(Stock(ALPHABET, cycle, [place == 0 for place in range(many)]).rows), many)
        self.assertEqual(len(Stock(ALPHABET, cycle, [place % 100 == 0 for place in range(many)]).rows), 100)

    def test_point_21_equal_stocks(self):
        one = Stock(ALPHABET, [[1, 0, 0], [-1, -1, -1]], [False, True])
        self.assertTrue(one == Stock(Alphabet("ab", "a"), [[1, 0, 0], [-1, -1, -1]], [False, True]))
        self.assertTrue(one == Stock.shaped(ALPHABET, "L*J"))
        self.assertFalse(one != Stock.shaped(ALPHABET, "L*-"))
        self.assertFalse(one == Stock(ALPHABET, [[1, 0, 0], [-1, -1, -1]], [True, True]))
        self.assertFalse(one == Stock(ALPHABET, [[1, 0, -1], [-1, -1, -1]], [False, True]))
        self.assertTrue(one != Stock.every(ALPHABET))

    def test_point_21_other_alphabets(self):
        for one, two in itertools.permutations([Alphabet("ab"), Alphabet("ab", "a"), Alphabet("ac"), Alphabet("a")], 2):
            self.assertFalse(Stock.every(one) == Stock.every(two))
            self.assertFalse(Stock.listed(one, []) == Stock.listed(two, []))

    def test_point_21_things_that_are_no_stocks(self):
        for other in (None, 0, "", [], ALPHABET):
            self.assertFalse(Stock.every(ALPHABET) == other)


class WrongTableTest(unittest.TestCase):
    def refused(self, place, rows, goods, alphabet=ALPHABET):
        with self.subTest(f"{rows} {goods}"):
            with self.assertRaises(BadTable) as caught:
                Stock(alphabet, rows, goods)
            self.assertEqual(caught.exception.place, place)

    def test_point_22_the_whole_table(self):
        good, bad = [0, 0, 0], [0, 0, 7]
        self.refused(-1, [], [])
        self.refused(-1, [], [True])
        self.refused(-1, [good], [])
        self.refused(-1, [good], [True, True])
        self.refused(-1, [good, good], [True])
        self.refused(-1, [bad, []], [True])
        self.refused(-1, [[]], [True, False])

    def test_point_22_lists_of_another_length(self):
        for wrong in ([], [0], [0, 0], [0, 0, 0, 0], [-1, -1, -1, -1]):
            self.refused(0, [wrong], [True])
            self.refused(1, [[0, 1, 2], wrong, [0, 0, 0]], [True, True, True])
            self.refused(2, [[0, 1, 2], [0, 0, 0], wrong], [False, True, True])
        self.refused(0, [[0, 0, 0]], [True], Alphabet("abc"))
        self.refused(0, [[0, 0, 0]], [True], Alphabet("a"))

    def test_point_22_steps_below_and_beyond(self):
        for step in (-2, -3, -100, 3, 4, 1000):
            for index in range(3):
                wrong = [0, 1, 2]
                wrong[index] = step
                for place in range(3):
                    rows = [[-1, 0, 1], [2, -1, 2], [0, 0, 0]]
                    rows[place] = wrong
                    self.refused(place, rows, [True, False, True])
        self.refused(0, [[0, 1, -1]], [True])

    def test_point_22_the_first_wrong_place_counts(self):
        self.refused(1, [[0, 0, 0], [0, 0], [0, 0, 9]], [True, True, True])
        self.refused(1, [[0, 0, 0], [0, 0, 3], []], [True, True, True])
        self.refused(0, [[0, 0, -2], [], []], [True, True, True])

    def test_point_22_places_of_no_use_are_checked_too(self):
        self.refused(1, [[0, 0, 0], [0, 0, 2]], [True, True])
        self.refused(2, [[1, -1, -1], [-1, -1, -1], [-2, 0, 0]], [False, False, False])

    def test_point_22_every_place_and_none_are_right(self):
        stock = Stock(ALPHABET, [[-1, 0, 1], [1, 1, -1]], [True, True])
        self.assertEqual(stock.rows, [[-1, 0, 1], [1, 1, -1]])


class MadeTest(unittest.TestCase):
    def test_point_23_every(self):
        for alphabet in (ALPHABET, Alphabet("a"), Alphabet("abcdefgh", "ae")):
            stock = Stock.every(alphabet)
            self.assertEqual((stock.rows, stock.goods), ([[0] * len(alphabet.signs)], [True]))
            self.assertTrue(stock.alphabet == alphabet)
            for word in plain_stages.words(alphabet.signs, 3):
                self.assertIn(word, stock)

    def listed(self, words):
        stock = Stock.listed(ALPHABET, words)
        check_least(self, stock)
        for word in WORDS:
            self.assertEqual(word in stock, word in words)
        return stock

    def test_point_23_listed(self):
        self.listed(["a"])
        self.listed(["", "b-", "ab", "bb"])
        self.listed(["--", "-", "-a-a-b"])
        chance = random.Random(23)
        for _ in range(20):
            words = chance.sample(WORDS[:364], chance.randint(1, 4))
            stock = self.listed(words)
            self.assertTrue(stock == Stock.listed(ALPHABET, chance.sample(words, len(words))))

    def test_point_23_listed_table(self):
        stock = Stock.listed(ALPHABET, ["ba", "aa", "b"])
        self.assertEqual((stock.rows, stock.goods),
                         ([[-1, 1, 2], [-1, 3, -1], [-1, 3, -1], [-1, -1, -1]], [False, False, True, True]))

    def test_point_23_duplicates(self):
        self.assertTrue(self.listed(["ab", "a", "ab", "a", "a"]) == self.listed(["a", "ab"]))
        self.assertTrue(self.listed(["", ""]) == self.listed([""]))

    def test_point_23_the_empty_word(self):
        stock = self.listed([""])
        self.assertEqual((stock.rows, stock.goods), ([[-1, -1, -1]], [True]))

    def test_point_23_no_words(self):
        stock = self.listed([])
        self.assertEqual((stock.rows, stock.goods), NO_WORDS)

    def test_point_23_long_words(self):
        words = ["ab-" * 20, "ab-" * 19 + "abb", "b" * 60]
        stock = Stock.listed(ALPHABET, words)
        for word in words:
            self.assertIn(word, stock)
            self.assertNotIn(word[:-1], stock)
            self.assertNotIn(word + "a", stock)

    def test_point_23_foreign_strings(self):
        for words, wrong in ((["c"], "c"), (["a", "b", "a b"], "a b"), (["a", "A", "c"], "A"), (["c", "d", "a"], "c"),
                             (["", "aa\n", ""], "aa\n"), (["-a-?", "?"], "-a-?")):
            with self.assertRaises(BadWord) as caught:
                Stock.listed(ALPHABET, words)
            self.assertEqual(caught.exception.word, wrong)

    def test_point_23_shaped(self):
        stock = Stock.shaped(ALPHABET, "(CV)+C?")
        self.assertEqual((stock.rows, stock.goods),
                         ([[-1, -1, 1], [-1, 2, -1], [-1, -1, 3], [-1, 2, -1]], [False, False, True, True]))


class CopyTest(unittest.TestCase):
    def test_point_1_tables_that_the_caller_changes(self):
        rows, goods = [[1, 0, 0], [-1, -1, 0]], [False, True]
        stock = Stock(ALPHABET, rows, goods)
        before = (copy.deepcopy(stock.rows), list(stock.goods))
        rows[0][0] = -1
        rows[1].clear()
        rows.append([0, 0, 0])
        goods[0] = True
        goods.clear()
        self.assertEqual((stock.rows, stock.goods), before)
        self.assertIn("-", stock)

    def test_point_1_arguments_are_not_modified(self):
        rows, goods = [[1, 0, 2], [-1, 2, 0], [-1, 2, 0], [0, 0, 0]], [False, True, True, False]
        before = copy.deepcopy((rows, goods))
        Stock(ALPHABET, rows, goods)
        self.assertEqual((rows, goods), before)
        words = ["b", "a", "b", ""]
        stock = Stock.listed(ALPHABET, words)
        self.assertEqual(words, ["b", "a", "b", ""])
        words[0] = "bb"
        self.assertNotIn("bb", stock)

    def test_point_1_the_alphabet_is_copied(self):
        alphabet = Alphabet("ba", "a")
        stock = Stock.every(alphabet)
        alphabet.letters = alphabet.signs = "x"
        self.assertTrue(stock.alphabet == ALPHABET)
        self.assertIn("ab-", stock)


class InterfaceTest(unittest.TestCase):
    def test_names(self):
        self.assertEqual(Stock.__module__, "cliplore.stocks")
        self.assertEqual(str(inspect.signature(Stock)), "(alphabet, rows, goods)")
        made = {"every": "(alphabet)", "listed": "(alphabet, words)", "shaped": "(alphabet, text)"}
        for name, signature in made.items():
            self.assertIsInstance(vars(Stock)[name], classmethod)
            self.assertEqual(str(inspect.signature(getattr(Stock, name))), signature)
        methods = {"words": "(self, most)", "count": "(self, most)", "first_word": "(self)", "lead": "(self, word)"}
        for name, signature in methods.items():
            self.assertEqual(str(inspect.signature(vars(Stock)[name])), signature)
        for name in ("__eq__", "__and__", "__or__", "__sub__", "__contains__", "__bool__"):
            self.assertIn(name, vars(Stock))

    def test_kinds_of_values(self):
        stock = Stock(ALPHABET, ((1, 0, 0), (-1, -1, 0)), (False, True))
        self.assertIs(stock.rows.__class__, list)
        self.assertIs(stock.goods.__class__, list)
        for row in stock.rows:
            self.assertIs(row.__class__, list)

    def test_plain_words_lead_where_the_table_says(self):
        stock = Stock.shaped(ALPHABET, "(CV)+C?")
        for word in WORDS[:364]:
            self.assertEqual(stock.lead(word), led(stock.rows, "-ab", word))


if __name__ == "__main__":
    unittest.main()
