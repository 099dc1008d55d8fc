"""What stocks are asked and how they are joined: points 26 to 28."""

import inspect
import itertools
import random
import unittest

from cliplore import stocks
from cliplore.errors import BadWord, Mixed
from cliplore.signs import Alphabet
from cliplore.stocks import Stock, apart
from tests import plain_stages
from tests.plain_tables import check_least, led, random_table

ALPHABET = Alphabet("ba", "a")
OTHERS = (Alphabet("ba"), Alphabet("ba", "ab"), Alphabet("b"), Alphabet("ac", "a"), Alphabet("abc", "a"))
EIGHT = Alphabet("abcdefgh", "ae")
WORDS = list(plain_stages.words("-ab", 5))
FOREIGN = ("c", "abc", "a b", " ", "A", "ab\n", "a_b", "\u00e4", "-?")


def some_stocks(number):
    chance = random.Random(26)
    yield Stock.listed(ALPHABET, [])
    yield Stock.listed(ALPHABET, [""])
    yield Stock.every(ALPHABET)
    for _ in range(number):
        yield Stock(ALPHABET, *random_table(chance, 4))


def words_of(stock):
    return [word for word in WORDS if word in stock]


class OperatorTest(unittest.TestCase):
    def test_point_26_in(self):
        stock = Stock.listed(ALPHABET, ["ab", "", "-"])
        self.assertEqual([word for word in WORDS if word in stock], ["", "-", "ab"])
        self.assertIs(stock.__contains__("ab").__class__, bool)
        self.assertIs(stock.__contains__("b").__class__, bool)

    def test_point_26_foreign_strings_are_not_in(self):
        for stock in some_stocks(5):
            for word in FOREIGN:
                self.assertFalse(word in stock)
                self.assertTrue(word not in stock)

    def test_point_26_each_operator(self):
        pairs = list(itertools.product(some_stocks(15), repeat=2))
        for first, second in pairs:
            one, two = words_of(first), words_of(second)
            expected = {
                "&": (first & second, [word for word in WORDS if word in one and word in two]),
                "|": (first | second, [word for word in WORDS if word in one or word in two]),
                "-": (first - second, [word for word in WORDS if word in one and word not in two]),
            }
            for found, words in expected.values():
                self.assertIs(found.__class__, Stock)
                self.assertTrue(found.alphabet == ALPHABET)
                self.assertEqual(words_of(found), words)
                again = Stock(ALPHABET, found.rows, found.goods)
                self.assertEqual((found.rows, found.goods), (again.rows, again.goods))

    def test_point_26_the_tables_are_least(self):
        chance = random.Random(27)
        for _ in range(40):
            first, second = (Stock(ALPHABET, *random_table(chance, 2)) for _ in range(2))
            for found in (first & second, first | second, first - second):
                check_least(self, found)

    def test_point_26_with_the_stock_without_words(self):
        empty = Stock.listed(ALPHABET, [])
        for stock in some_stocks(15):
            self.assertTrue(stock & empty == empty)
            self.assertTrue(empty & stock == empty)
            self.assertTrue(stock | empty == stock)
            self.assertTrue(empty | stock == stock)
            self.assertTrue(stock - empty == stock)
            self.assertTrue(empty - stock == empty)

    def test_point_26_a_stock_with_itself_and_with_every_word(self):
        every = Stock.every(ALPHABET)
        for stock in some_stocks(15):
            self.assertTrue(stock & stock == stock)
            self.assertTrue(stock | stock == stock)
            self.assertFalse(bool(stock - stock))
            self.assertTrue(every - (every - stock) == stock)
            self.assertTrue(stock & every == stock)
            self.assertTrue(stock | every == every)

    def test_point_26_operators_leave_both_stocks_as_they_are(self):
        first, second = Stock.shaped(ALPHABET, "(CV)+"), Stock.shaped(ALPHABET, "S+V")
        before = repr([first.rows, first.goods, second.rows, second.goods])
        found = [first & second, first | second, first - second]
        for stock in found:
            stock.rows[0][0] = 99
        self.assertEqual(repr([first.rows, first.goods, second.rows, second.goods]), before)

    def test_point_26_other_alphabets(self):
        for other in OTHERS:
            for one, two in ((Stock.every(ALPHABET), Stock.every(other)), (Stock.every(other), Stock.every(ALPHABET)),
                             (Stock.listed(ALPHABET, []), Stock.listed(other, []))):
                for call in (lambda: one & two, lambda: one | two, lambda: one - two):
                    with self.assertRaises(Mixed):
                        call()

    def test_point_26_equal_alphabets_are_not_mixed(self):
        both = Stock.listed(ALPHABET, ["a"]) | Stock.listed(Alphabet("ab", "a"), ["b"])
        self.assertEqual(list(both.words(9)), ["a", "b"])

    def test_point_26_bool(self):
        for stock in some_stocks(30):
            self.assertIs(bool(stock), any(stock.goods))
        self.assertFalse(bool(Stock.listed(ALPHABET, [])))
        self.assertTrue(bool(Stock.listed(ALPHABET, [""])))
        self.assertTrue(bool(Stock.listed(ALPHABET, ["b" * 60])))
        self.assertFalse(bool(Stock.shaped(Alphabet("ba"), "V+")))


class WordsTest(unittest.TestCase):
    def test_point_27_shortlex_order(self):
        for stock in some_stocks(40):
            for most in range(6):
                self.assertEqual(list(stock.words(most)), [word for word in words_of(stock) if len(word) <= most])

    def test_point_27_the_rank_of_the_signs(self):
        self.assertEqual(list(Stock.every(Alphabet("zam")).words(1)), ["", "-", "a", "m", "z"])
        self.assertEqual(list(Stock.listed(Alphabet("zam"), ["zz", "a-", "aa", "m", "z-", "-z", "zza"]).words(9)),
                         ["m", "-z", "a-", "aa", "z-", "zz", "zza"])

    def test_point_27_words_is_a_generator(self):
        self.assertTrue(inspect.isgeneratorfunction(Stock.words))
        many = Stock.every(EIGHT).words(60)
        self.assertTrue(inspect.isgenerator(many))
        self.assertEqual(list(itertools.islice(many, 12)), ["", *EIGHT.signs, "--", "-a"])
        self.assertEqual(next(Stock.shaped(EIGHT, "h*bS*ah").words(60)), "bah")

    def test_point_27_two_generators_by_turns(self):
        stock = Stock.shaped(ALPHABET, "L+J?")
        pairs = list(zip(stock.words(3), stock.words(3)))
        self.assertEqual(pairs, [(word, word) for word in stock.words(3)])

    def test_point_27_words_that_are_far_apart(self):
        words = ["ab" * 30, "b" * 60]
        self.assertEqual(list(Stock.listed(ALPHABET, ["b", *words]).words(60)), ["b", *words])
        self.assertEqual(list(Stock.listed(ALPHABET, words).words(59)), [])

    def test_point_27_negative_numbers(self):
        for stock in some_stocks(5):
            for most in (-1, -2, -60):
                self.assertEqual(list(stock.words(most)), [])
                self.assertEqual(stock.count(most), 0)

    def test_point_27_count(self):
        for stock in some_stocks(40):
            for most in range(6):
                self.assertEqual(stock.count(most), len([word for word in words_of(stock) if len(word) <= most]))

    def test_point_27_count_for_zero_and_sixty(self):
        every = Stock.every(ALPHABET)
        self.assertEqual((every.count(0), every.count(60)), (1, (3 ** 61 - 1) // 2))
        self.assertEqual(Stock.every(EIGHT).count(60), (9 ** 61 - 1) // 8)
        self.assertEqual(Stock.every(Alphabet("a")).count(60), 2 ** 61 - 1)
        self.assertEqual(Stock.shaped(ALPHABET, "L+").count(60), 2 ** 61 - 2)
        self.assertEqual([Stock.shaped(ALPHABET, "(CV)+C?").count(most) for most in (0, 1, 2, 60)], [0, 0, 1, 59])
        self.assertEqual([Stock.listed(ALPHABET, ["", "b" * 60]).count(most) for most in (0, 59, 60)], [1, 1, 2])
        self.assertEqual([Stock.listed(ALPHABET, []).count(most) for most in (0, 60)], [0, 0])
        self.assertEqual(list(Stock.listed(ALPHABET, []).words(60)), [])

    def test_point_27_first_word(self):
        for stock in some_stocks(60):
            self.assertEqual(stock.first_word(), next(iter(words_of(stock)), None))
        self.assertIsNone(Stock.listed(ALPHABET, []).first_word())
        self.assertEqual(Stock.listed(ALPHABET, ["bb", "ba-", "ab"]).first_word(), "ab")
        self.assertEqual(Stock.listed(ALPHABET, ["b", "aa", "-a"]).first_word(), "b")
        self.assertEqual(Stock.listed(ALPHABET, ["b" * 60]).first_word(), "b" * 60)
        self.assertEqual(Stock.shaped(ALPHABET, "(aaa|b-b|ba)+").first_word(), "ba")

    def test_point_27_lead(self):
        for stock in some_stocks(30):
            for word in WORDS:
                self.assertEqual(stock.lead(word), led(stock.rows, "-ab", word))
        stock = Stock.shaped(ALPHABET, "(CV)+C?")
        self.assertEqual([stock.lead(word) for word in ("", "b", "ba", "bab", "baba", "a", "bb", "bbb", "-")],
                         [0, 1, 2, 3, 2, -1, -1, -1, -1])
        self.assertEqual(Stock.listed(ALPHABET, []).lead(""), 0)

    def test_point_27_lead_with_foreign_strings(self):
        for stock in some_stocks(3):
            for word in (*FOREIGN, "a" * 20 + "x", "--x--"):
                with self.assertRaises(BadWord) as caught:
                    stock.lead(word)
                self.assertEqual(caught.exception.word, word)


class ApartTest(unittest.TestCase):
    def test_point_28_the_first_word_of_exactly_one(self):
        # Tables of at most 4 places differ on a short word, if they differ at all.
        for first, second in itertools.product(some_stocks(25), repeat=2):
            expected = next((word for word in WORDS if (word in first) != (word in second)), None)
            self.assertEqual(apart(first, second), expected)
            self.assertEqual(apart(second, first), expected)
            self.assertEqual(expected is None, first == second)

    def test_point_28_examples(self):
        one = Stock.shaped(ALPHABET, "(CV)+C?")
        self.assertEqual(apart(one, Stock.shaped(ALPHABET, "(CV)+")), "bab")
        self.assertEqual(apart(Stock.every(ALPHABET), one), "")
        self.assertEqual(apart(one, Stock.listed(ALPHABET, [])), "ba")
        self.assertEqual(apart(Stock.listed(ALPHABET, ["b", "aa"]), Stock.listed(ALPHABET, ["-a", "b"])), "-a")
        self.assertEqual(apart(Stock.listed(ALPHABET, ["a" * 60]), Stock.listed(ALPHABET, ["a" * 59 + "b"])), "a" * 60)

    def test_point_28_equal_stocks(self):
        self.assertIsNone(apart(Stock.shaped(ALPHABET, "(a|b)*"), Stock.shaped(ALPHABET, "L*")))
        self.assertIsNone(apart(Stock.listed(ALPHABET, []), Stock.listed(ALPHABET, [])))

    def test_point_28_long_cycles(self):
        stocks_by_size = [Stock(ALPHABET, [[(place + 1) % many] * 3 for place in range(many)],
                                [place == 1 for place in range(many)]) for many in (31, 37)]
        self.assertEqual(apart(*stocks_by_size), "-" * 32)

    def test_point_28_other_alphabets(self):
        for other in OTHERS:
            for one, two in itertools.permutations([Stock.every(ALPHABET), Stock.every(other)], 2):
                with self.assertRaises(Mixed):
                    apart(one, two)
            with self.assertRaises(Mixed):
                apart(Stock.listed(ALPHABET, []), Stock.listed(other, []))

    def test_point_28_it_stands_in_its_file(self):
        self.assertEqual(stocks.apart.__module__, "cliplore.stocks")
        self.assertEqual(str(inspect.signature(stocks.apart)), "(first, second)")


if __name__ == "__main__":
    unittest.main()
