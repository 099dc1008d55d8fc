"""Books: what they answer about words and short forms, points 55 to 57."""

import itertools
import random
import unittest

from cliplore.books import Book
from cliplore.comparing import parting_word
from cliplore.errors import BadWord, OutsideStock
from cliplore.lots import Lot
from cliplore.rules import Rule
from cliplore.signs import Alphabet
from cliplore.stocks import Stock
from tests import plain_stages
from tests.plain_books import PlainBook, everything, outcome
from tests.plain_rows import fewest_signs, shortlex
from tests.test_books import some_step

ALPHABET = Alphabet("ba", "a")
WORDS = list(plain_stages.words("-ab", 5))
FOREIGN = ("c", "abc", "a b", " ", "A", "ab\n", "-?")
LOTS = (Lot.made(ALPHABET, "drop vowels", "once all", "add a"),
        Lot.made(ALPHABET, "drop all after 1 each", "write a for [b]", "drop joints", depth=2),
        Lot.made(ALPHABET, "drop vowels after 1", "drop vowels after 2", "drop vowels", depth=1))
SMALL = Lot.made(ALPHABET, "drop vowels", "once all", depth=1)
SHAPES = ("S*", "L+(-L+)*", "CV+C?", "a?b?")
SHORTS = ("", "a", "b", "bb", "ba", "-", "b-b", "?")


def read(text):
    return Rule.read(ALPHABET, text)


class AnswersTest(unittest.TestCase):
    def raises(self, error, attributes, call):
        with self.assertRaises(error) as caught:
            call()
        self.assertEqual(vars(caught.exception), attributes)

    def answers_alike(self, book, plain, chance):
        """Compares the answers of both books for some words and short forms."""
        words = chance.sample(WORDS[:40], 6) + ["?"]
        for word in words:
            self.assertEqual(outcome(lambda: book.answers(word)), outcome(lambda: plain.answers(word)))
            self.assertEqual(outcome(lambda: book.sure(word)), outcome(lambda: plain.sure(word)))
        for one, two in itertools.combinations(words[-4:], 2):
            self.assertEqual(outcome(lambda: book.verdict(one, two)), outcome(lambda: plain.verdict(one, two)))
        short, most = chance.choice(SHORTS), chance.choice([-1, 0, 2, 4, 5])
        expected = outcome(lambda: plain.means(short, most))
        self.assertEqual(outcome(lambda: book.means(short, most=most)), expected)
        self.unsure_is_right(book, plain)

    def unsure_is_right(self, book, plain):
        found, expected = book.unsure(), plain.unsure()
        if expected is None and found is not None:
            self.assertGreater(len(found), 5)
            self.assertIsNone(book.sure(found))
        else:
            self.assertEqual(found, expected)

    def test_points_55_and_56_against_a_plain_book(self):
        for seed, lot, shape in itertools.product(range(2), LOTS, SHAPES):
            chance = random.Random(f"{seed} {lot.texts()} {shape}")
            stock, limit = Stock.shaped(ALPHABET, shape), chance.choice([0, 0, 1])
            book, plain = Book(lot, stock, limit=limit), PlainBook(lot, stock, limit, WORDS)
            rule = chance.choice(lot.rules)
            self.answers_alike(book, plain, chance)
            for _ in range(8):
                name, given = some_step(chance, rule, plain.words, plain.state["next"])
                self.assertEqual(outcome(lambda: getattr(book, name)(*given)),
                                 outcome(lambda: getattr(plain, name)(*given)))
                self.answers_alike(book, plain, chance)
            self.assertEqual(everything(book), plain.everything())

    def test_point_55_answers_in_the_order_of_strings(self):
        book = Book(SMALL, Stock.every(ALPHABET))
        self.assertEqual(book.answers("abb"), [("ab", [2]), ("abb", [0]), ("bb", [1])])
        lot = Lot([read(text) for text in ("drop all after 1", "drop [a]", "keep", "drop [b]", "drop all")])
        book = Book(lot, Stock.every(ALPHABET))
        self.assertEqual(book.answers("ba-aab"), [("", [4]), ("a-aa", [3]), ("b", [0]), ("b-b", [1]), ("ba-aab", [2])])
        self.assertEqual(book.answers("--"), [("", [4]), ("-", [0]), ("--", [1, 2, 3])])

    def test_point_55_answers_behind_each_step(self):
        book = Book(SMALL, Stock.every(ALPHABET))
        self.assertEqual(book.answers("aab"), [("aab", [0]), ("ab", [2]), ("b", [1])])
        self.assertIsNone(book.sure("aab"))
        book.tell("bb", "bb")
        self.assertEqual(book.answers("aab"), [("aab", [0]), ("b", [1])])
        book.tell("a", "")
        self.assertEqual(book.answers("aab"), [("b", [1])])
        self.assertEqual((book.sure("aab"), book.sure(""), book.unsure()), ("b", "", None))
        book.undo()
        self.assertEqual((book.sure("aab"), book.sure("b"), book.unsure()), (None, "b", "a"))
        book.undo()
        self.assertEqual(book.unsure(), "a")
        book.redo()
        book.redo()
        self.assertEqual(book.sure("aab"), "b")

    def test_point_55_outside_the_stock(self):
        book = Book(SMALL, Stock.shaped(ALPHABET, "CV+"))
        for word in (*FOREIGN, "", "b", "ab", "ba-"):
            self.raises(OutsideStock, {"word": word}, lambda: book.answers(word))
            self.raises(OutsideStock, {"word": word}, lambda: book.sure(word))
            self.raises(OutsideStock, {"word": word}, lambda: book.verdict(word, "ba"))
            self.raises(OutsideStock, {"word": word}, lambda: book.verdict("ba", word))
            self.raises(OutsideStock, {"word": word}, lambda: book.verdict(word, "?"))

    def test_point_55_unsure_in_shortlex_order(self):
        for texts, shape, expected in (
                (("keep", "drop [b]", "once [a]"), "aab?|ab", "aa"), (("keep", "drop [b]"), "a?b?", "b"),
                (("keep", "once all"), "(ab)*a?|(ba)*b?", None), (("keep", "once all", "drop joints"), "L*J?", "-"),
                (("keep", "add a"), "L*", ""), (("keep",), "S*", None), (("keep", "drop all after 3"), "(ab)*", "abab"),
                (("drop all after 1", "drop all after 2", "drop all after 3"), "S*", "--")):
            book = Book(Lot([read(text) for text in texts]), Stock.shaped(ALPHABET, shape))
            self.assertEqual(book.unsure(), expected, (texts, shape))
        long_word = "ab" * 29 + "--"
        stock = Stock.shaped(ALPHABET, "(L-)*L?") | Stock.listed(ALPHABET, [long_word])
        self.assertEqual(Book(Lot([read("keep"), read("once joints")]), stock).unsure(), long_word)
        self.assertIsNone(Book(SMALL, Stock.listed(ALPHABET, [])).unsure())

    def test_point_56_means(self):
        book = Book(SMALL, Stock.every(ALPHABET))
        self.assertEqual(book.means("b", most=3),
                         (["b"], ["ab", "ba", "bb", "aab", "aba", "baa", "bbb"]))
        self.assertEqual(book.means("ab", most=2), ([], ["ab"]))
        self.assertEqual(book.means("b", most=0), ([], []))
        self.assertEqual(book.means("", most=0), ([""], []))
        self.assertIs(book.means("b").__class__, tuple)
        for most in (-1, -60):
            self.assertEqual(book.means("b", most=most), ([], []))
        book.tell("a", "")
        always, sometimes = book.means("b")
        self.assertEqual((sorted(always, key=shortlex), sometimes), (always, []))
        self.assertEqual((len(always), len(always[-1])), (6 * 7 // 2, 6))
        book.undo()
        book.tell("a", "a")
        book.tell("bb", "bb")
        self.assertEqual(book.means("b"), (["b"], []))

    def test_point_56_means_of_foreign_strings(self):
        for stock in (Stock.every(ALPHABET), Stock.listed(ALPHABET, []), Stock.shaped(ALPHABET, "CV+")):
            book = Book(SMALL, stock)
            for short, most in itertools.product(FOREIGN, (-1, 0, 6)):
                self.raises(BadWord, {"word": short}, lambda: book.means(short, most=most))
        self.assertEqual(Book(SMALL, Stock.listed(ALPHABET, [])).means("a"), ([], []))

    def test_point_56_verdict(self):
        book = Book(SMALL, Stock.every(ALPHABET))
        for one, two, verdict in (("ab", "ab", "always"), ("b", "ab", "sometimes"), ("bb", "b", "sometimes"),
                                  ("b", "-", "never"), ("", "a", "sometimes"), ("", "b", "never")):
            self.assertEqual((book.verdict(one, two), book.verdict(two, one)), (verdict, verdict))
        book.tell("a", "")
        self.assertEqual([book.verdict(*pair) for pair in (("b", "ab"), ("bb", "b"), ("", "a"))],
                         ["always", "never", "always"])
        book.undo()
        self.assertEqual(book.verdict("b", "ab"), "sometimes")
        book.tell("a", "a")
        self.assertEqual([book.verdict(*pair) for pair in (("b", "ab"), ("bb", "b"), ("", "a"))],
                         ["never", "sometimes", "never"])

    def test_point_57_parted(self):
        for lot, shape in itertools.product(LOTS, SHAPES):
            stock = Stock.shaped(ALPHABET, shape)
            book = Book(lot, stock)
            classes = book.all_classes()
            for one, two in itertools.product(range(len(classes)), repeat=2):
                rules = [lot.rules[classes[number][-1]] for number in (one, two)]
                expected = None if one == two else parting_word(*rules, stock)
                self.assertEqual(book.parted(one, two), expected)
                self.assertEqual(expected is None, one == two)

    def test_point_57_parted_also_for_classes_that_are_out(self):
        book = Book(SMALL, Stock.every(ALPHABET))
        book.tell("a", "")
        self.assertEqual(book.left(), [1])
        self.assertEqual([book.parted(*pair) for pair in ((0, 2), (2, 0), (1, 0), (2, 2))], ["--", "--", "a", None])

    def test_point_57_clashes(self):
        for lot, shape in itertools.product(LOTS, SHAPES):
            stock = Stock.shaped(ALPHABET, shape)
            words = [word for word in WORDS if word in stock]
            book = Book(lot, stock)
            told = book.clashes()
            self.assertEqual([number for number, _ in told], book.left())
            for number, found in told:
                rule = lot.rules[book.all_classes()[number][0]]
                fewest = fewest_signs(rule, words)
                if found is None:
                    self.assertIsNone(fewest)
                else:
                    one, two = found
                    self.assertIs(found.__class__, tuple)
                    self.assertLess(shortlex(one), shortlex(two))
                    self.assertTrue(one in stock and two in stock and rule(one) == rule(two))
                    if len(one + two) <= 5 or fewest is not None and fewest <= 5:
                        self.assertEqual(len(one + two), fewest)

    def test_point_57_clashes_of_the_classes_that_are_left(self):
        book = Book(SMALL, Stock.shaped(ALPHABET, "CV?"))
        self.assertEqual(book.all_classes(), [[0, 2], [1]])
        self.assertEqual(book.clashes(), [(0, None), (1, ("b", "ba"))])
        book.tell("ba", "b")
        self.assertEqual(book.clashes(), [(1, ("b", "ba"))])
        book.undo()
        book.tell("ba", "ba")
        self.assertEqual(book.clashes(), [(0, None)])
        self.assertEqual(Book(SMALL, Stock.listed(ALPHABET, [])).clashes(), [(0, None)])


if __name__ == "__main__":
    unittest.main()
