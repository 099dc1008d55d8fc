"""Books: what is told and taken back, points 47 to 54 and 58."""

import inspect
import itertools
import random
import unittest

from cliplore.books import Book
from cliplore.errors import BadDeed, BadLimit, BadWord, Mixed, NoClass, NoEntry, NoHistory, NoRule, OutsideStock
from cliplore.lots import Lot
from cliplore.rules import Rule
from cliplore.signs import Alphabet
from cliplore.stocks import Stock
from tests import plain_stages
from tests.plain_books import PlainBook, everything, outcome

ALPHABET = Alphabet("ba", "a")
OTHERS = (Alphabet("ba"), Alphabet("ba", "ab"), Alphabet("b"), Alphabet("ac", "a"), Alphabet("abc", "a"))
WORDS = list(plain_stages.words("-ab", 4))
FOREIGN = ("c", "abc", "a b", " ", "A", "ab\n", "-?")
LOT = Lot.made(ALPHABET, "drop vowels", "once all", "add a", "drop all after 2 each but last")
SMALL = Lot.made(ALPHABET, "drop vowels", "once all", depth=1)
SHAPES = ("S*", "L+(-L+)*", "CV+C?", "a?b?")


def some_deed(chance, rule, words, last):
    """A deed that is often let: rules mostly do what one rule does."""
    kind = chance.choice(["tell", "tell", "tell", "withdraw", "limit"])
    if kind == "tell":
        word = chance.choice(words)
        short = rule(word) if chance.random() < 0.7 else chance.choice(["", "a", "b", "ab", "bb", "-", "?"])
        return "tell", word if chance.random() < 0.9 else chance.choice(["?", "x-", "-" * 9 + "a"]), short
    if kind == "withdraw":
        return "withdraw", chance.randint(-1, last + 2)
    return "limit", chance.choice([-1, 0, 0, 1, 1, 2, 3])


def some_step(chance, rule, words, last):
    """A name of a method and its arguments."""
    kind = chance.choice(["deed", "deed", "deed", "attempt", "attempt", "undo", "redo"])
    if kind == "deed":
        name, *rest = some_deed(chance, rule, words, last)
        return {"limit": "change_limit"}.get(name, name), rest
    if kind == "attempt":
        deeds = [some_deed(chance, rule, words, last) for _ in range(chance.randint(0, 4))]
        if chance.random() < 0.1:
            deeds.insert(chance.randint(0, len(deeds)), chance.choice([(), ("tell", "a"), ("undo",), ("limit", 1, 2)]))
        return "attempt", [deeds]
    return kind, []


class BookTest(unittest.TestCase):
    def raises(self, error, attributes, call):
        with self.assertRaises(error) as caught:
            call()
        self.assertEqual(vars(caught.exception), attributes)


class DeedsTest(BookTest):
    def book(self, limit=0, shape="S*"):
        return Book(SMALL, Stock.shaped(ALPHABET, shape), limit=limit)

    def test_points_47_to_54_against_a_plain_book(self):
        refused = let = 0
        for seed, shape in itertools.product(range(12), SHAPES):
            chance = random.Random(f"{seed} {shape}")
            stock, limit = Stock.shaped(ALPHABET, shape), chance.choice([0, 0, 1, 2])
            book, plain = Book(LOT, stock, limit=limit), PlainBook(LOT, stock, limit, WORDS)
            rule = chance.choice(LOT.rules)
            for _ in range(25):
                name, given = some_step(chance, rule, plain.words, plain.state["next"])
                with self.subTest(f"{seed} {shape} {name} {given}"):
                    expected = outcome(lambda: getattr(plain, name)(*given))
                    self.assertEqual(outcome(lambda: getattr(book, name)(*given)), expected)
                    self.assertEqual(everything(book), plain.everything())
                let += expected[0] == "returns"
                refused += expected[0] != "returns"
        self.assertGreater(min(let, refused), 200)

    def test_point_47_classes_and_limit(self):
        book = self.book(shape="CV+")
        self.assertEqual(book.all_classes(), SMALL.classes_on(Stock.shaped(ALPHABET, "CV+")))
        self.assertEqual((book.limit, book.many, len(book), book.steps()), (0, 3, 0, (0, 0)))
        self.assertEqual(book.lot.texts(), SMALL.texts())
        self.assertTrue(book.stock == Stock.shaped(ALPHABET, "CV+"))

    def test_point_47_the_numbers_of_the_classes_never_change(self):
        book = self.book()
        before = book.all_classes()
        book.tell("abba", "bb")
        self.assertEqual(book.all_classes(), before)
        self.assertEqual((book.left(), book.many), ([1], 1))
        book.undo()
        self.assertEqual((book.all_classes(), book.left()), (before, [0, 1, 2]))

    def test_point_47_as_many_misses_as_the_limit_says(self):
        book = self.book(limit=2)
        for word, left in (("abb", [0, 1, 2]), ("baa", [0, 1, 2]), ("abba", [1]), ("aba", [1])):
            book.tell(word, word.replace("a", ""))
            self.assertEqual(book.left(), left)
        book.change_limit(4)
        self.assertEqual(book.left(), [0, 1, 2])
        book.change_limit(3)
        self.assertEqual(book.left(), [1])

    def test_point_48_wrong_books(self):
        for other in OTHERS:
            for stock in (Stock.every(other), Stock.listed(other, [])):
                for limit in (0, -1):
                    self.raises(Mixed, {}, lambda: Book(SMALL, stock, limit=limit))
        for limit in (-1, -5):
            self.raises(BadLimit, {"asked": limit}, lambda: self.book(limit))
        self.assertEqual(Book(SMALL, Stock.every(Alphabet("ab", "a")), limit=7).limit, 7)
        self.assertEqual(Book(SMALL, Stock.every(ALPHABET)).limit, 0)

    def test_point_49_the_numbers_of_the_entries(self):
        book = self.book(limit=1)
        self.assertEqual([book.tell("abba", "bb"), book.tell("a", ""), book.tell("abba", "bb")], [1, 2, 3])
        self.assertIsNone(book.withdraw(3))
        self.assertEqual(book.tell("", ""), 4)
        self.assertIsNone(book.withdraw(1))
        self.assertEqual(book.tell("b", "b"), 5)
        self.assertEqual(book.entries(), [(2, "a", ""), (4, "", ""), (5, "b", "b")])
        self.assertEqual(len(book), 3)

    def test_point_49_the_same_pair_counts_each_time(self):
        book = self.book(limit=2)
        for many in (1, 2, 3):
            self.assertEqual(book.tell("abba", "abba"), many)
            self.assertEqual(book.misses(1), list(range(1, many + 1)))
        self.assertEqual(book.left(), [0])

    def test_point_49_the_order_of_the_checks(self):
        book = self.book(shape="CV+")
        for word in (*FOREIGN, "", "b", "ab", "-"):
            for short in ("a", "?", "bb"):
                self.raises(OutsideStock, {"word": word}, lambda: book.tell(word, short))
        for short in FOREIGN:
            self.raises(BadWord, {"word": short}, lambda: book.tell("ba", short))
        self.raises(NoRule, {"fewest": 1}, lambda: book.tell("ba", "bb"))
        self.assertEqual((book.entries(), book.steps()), ([], (0, 0)))

    def test_point_49_the_fewest_misses(self):
        book = self.book(limit=1)
        book.tell("ab", "ab")
        book.tell("ab", "ab")
        book.tell("aab", "b")
        self.assertEqual(book.account(), [(0, "fits", [3]), (1, "out", [1, 2]), (2, "fits", [3])])
        # Each class would miss two entries or more.
        before = everything(book)
        self.raises(NoRule, {"fewest": 2}, lambda: book.tell("ab", "bb"))
        self.raises(NoRule, {"fewest": 2}, lambda: book.tell("", "bb"))
        self.assertEqual(everything(book), before)
        self.assertEqual(book.tell("aab", "ab"), 4)
        self.assertEqual(book.left(), [2])

    def test_point_50_no_entry(self):
        book = self.book()
        for number in (1, 0, -1, 99):
            self.raises(NoEntry, {"number": number}, lambda: book.withdraw(number))
        book.tell("a", "a")
        book.tell("b", "b")
        book.withdraw(1)
        before = everything(book)
        for number in (1, 3, 0, -1, -2):
            self.raises(NoEntry, {"number": number}, lambda: book.withdraw(number))
        self.assertEqual(everything(book), before)

    def test_point_50_the_limit(self):
        book = self.book(limit=1)
        book.tell("ab", "bb")
        before = everything(book)
        for limit in (-1, -2):
            self.raises(BadLimit, {"asked": limit}, lambda: book.change_limit(limit))
        self.raises(NoRule, {"fewest": 1}, lambda: book.change_limit(0))
        self.assertEqual(everything(book), before)
        self.assertIsNone(book.change_limit(5))
        self.assertEqual((book.limit, book.steps()), (5, (2, 0)))
        self.assertIsNone(book.change_limit(5))
        self.assertEqual((book.limit, book.steps()), (5, (3, 0)))

    def test_point_50_the_property(self):
        book = self.book()
        book.limit = 3
        self.assertEqual((book.limit, book.steps()), (3, (1, 0)))
        book.limit += 1
        book.limit = 4
        self.assertEqual((book.limit, book.steps()), (4, (3, 0)))
        for limit in (-1, -9):
            with self.assertRaises(BadLimit) as caught:
                book.limit = limit
            self.assertEqual(caught.exception.asked, limit)
        book.tell("ab", "bb")
        with self.assertRaises(NoRule) as caught:
            book.limit = 0
        self.assertEqual(caught.exception.fewest, 1)
        self.assertEqual((book.limit, book.steps()), (4, (4, 0)))
        with self.assertRaises(AttributeError):
            book.many = 3


class AttemptTest(BookTest):
    def book(self, limit=0):
        return Book(SMALL, Stock.shaped(ALPHABET, "L*"), limit=limit)

    def test_point_51_all_deeds_are_one_step(self):
        book = self.book()
        book.tell("b", "b")
        told = book.attempt([("limit", 1), ("tell", "ab", "bb"), ("withdraw", 1), ("tell", "a", "a"), ("limit", 2)])
        self.assertEqual(told, [None, 2, None, 3, None])
        self.assertEqual((book.entries(), book.limit, book.steps()), ([(2, "ab", "bb"), (3, "a", "a")], 2, (2, 0)))
        book.undo()
        self.assertEqual((book.entries(), book.limit, book.steps()), ([(1, "b", "b")], 0, (1, 1)))
        self.assertEqual(book.tell("a", "a"), 2)

    def test_point_51_a_deed_that_is_refused_at_each_place(self):
        good = [("tell", "ab", "ab"), ("limit", 1), ("tell", "aab", "ab")]
        wrong = [(("tell", "-", "a"), OutsideStock, {"word": "-"}), (("tell", "a", "?"), BadWord, {"word": "?"}),
                 (("withdraw", 9), NoEntry, {"number": 9}), (("limit", -1), BadLimit, {"asked": -1})]
        for (deed, error, attributes), place in itertools.product(wrong, range(4)):
            book = self.book()
            book.tell("b", "b")
            before = everything(book)
            self.raises(error, attributes, lambda: book.attempt([*good[:place], deed, *good[place:]]))
            self.assertEqual(everything(book), before)
            self.assertEqual(book.attempt(good), [2, None, 3])

    def test_point_51_each_deed_is_carried_out_behind_the_others(self):
        book = self.book()
        # No class would be left in between, even though a later deed would let one.
        self.raises(NoRule, {"fewest": 1}, lambda: book.attempt([("tell", "ab", "bb"), ("limit", 1)]))
        self.assertEqual(book.steps(), (0, 0))
        self.assertEqual(book.attempt([("limit", 1), ("tell", "ab", "bb")]), [None, 1])
        self.assertEqual(book.attempt([("tell", "a", "a"), ("withdraw", 2), ("tell", "a", "a"), ("withdraw", 1)]),
                         [2, None, 3, None])
        self.raises(NoEntry, {"number": 4}, lambda: book.attempt([("withdraw", 4), ("tell", "a", "a")]))
        self.raises(NoEntry, {"number": 3}, lambda: book.attempt([("withdraw", 3), ("withdraw", 3)]))
        self.assertEqual(book.entries(), [(3, "a", "a")])

    def test_point_51_wrong_deeds(self):
        good = [("tell", "ab", "ab"), ("withdraw", 1), ("limit", 1)]
        for deed in ((), ("tell",), ("tell", "a"), ("tell", "a", "a", "a"), ("withdraw",), ("withdraw", 1, 2),
                     ("limit",), ("limit", 1, 2), ("undo",), ("Tell", "a", "a"), ("", "a", "a"), ("tells", "a", "a"),
                     ("change_limit", 1)):
            for place in range(4):
                book = self.book()
                deeds = [*good[:place], deed, *good[place:], ()]
                self.raises(BadDeed, {"index": place}, lambda: book.attempt(deeds))
                self.assertEqual((book.entries(), book.limit, book.steps()), ([], 0, (0, 0)))

    def test_point_51_wrong_deeds_are_found_before_any_deed_is_carried_out(self):
        book = self.book()
        for first in (("withdraw", 9), ("limit", -1), ("tell", "-", "a"), ("tell", "a", "?"), ("tell", "ab", "bb")):
            self.raises(BadDeed, {"index": 1}, lambda: book.attempt([first, ("tell",)]))
            self.raises(BadDeed, {"index": 2}, lambda: book.attempt([first, first, (), ()]))

    def test_point_51_an_empty_list(self):
        book = self.book()
        book.tell("a", "a")
        book.undo()
        self.assertEqual(book.attempt([]), [])
        self.assertEqual(book.steps(), (0, 1))
        book.redo()
        self.assertEqual(book.entries(), [(1, "a", "a")])

    def test_point_51_the_caller_changes_the_lists(self):
        book = self.book()
        deeds = [("tell", "ab", "ab"), ("limit", 2)]
        told = book.attempt(deeds)
        self.assertEqual(deeds, [("tell", "ab", "ab"), ("limit", 2)])
        deeds[0] = ("tell", "a", "a")
        deeds.pop()
        told.clear()
        self.assertEqual((book.entries(), book.limit), ([(1, "ab", "ab")], 2))
        book.undo()
        book.redo()
        self.assertEqual((book.entries(), book.limit), ([(1, "ab", "ab")], 2))


class HistoryTest(BookTest):
    def book(self, limit=0):
        return Book(SMALL, Stock.every(ALPHABET), limit=limit)

    def test_point_52_back_and_forth(self):
        book = self.book()
        states = [everything(book)[:-1]]
        steps = [lambda: book.tell("ab", "ab"), lambda: book.change_limit(2), lambda: book.tell("ab", "bb"),
                 lambda: book.withdraw(1), lambda: book.attempt([("tell", "b", "b"), ("withdraw", 2)]),
                 lambda: book.change_limit(2)]
        for step in steps:
            step()
            states.append(everything(book)[:-1])
        for _ in range(2):
            for index in reversed(range(len(steps))):
                self.assertIsNone(book.undo())
                self.assertEqual(everything(book), [*states[index], (index, len(steps) - index)])
            self.raises(NoHistory, {"way": "undo"}, book.undo)
            for index in range(len(steps)):
                self.assertIsNone(book.redo())
                self.assertEqual(everything(book), [*states[index + 1], (index + 1, len(steps) - index - 1)])
            self.raises(NoHistory, {"way": "redo"}, book.redo)

    def test_point_52_the_next_number(self):
        book = self.book()
        book.tell("a", "a")
        book.tell("b", "b")
        book.undo()
        self.assertEqual(book.tell("ab", "ab"), 2)
        book.withdraw(2)
        book.undo()
        self.assertEqual(book.tell("b", "b"), 3)
        book.undo()
        book.undo()
        book.undo()
        self.assertEqual(book.tell("b", "b"), 1)

    def test_point_52_a_new_step_discards_what_was_taken_back(self):
        for step in (lambda book: book.tell("b", "b"), lambda book: book.withdraw(1),
                     lambda book: book.change_limit(0), lambda book: book.attempt([("limit", 1)])):
            book = self.book()
            book.tell("a", "a")
            book.tell("ab", "ab")
            book.undo()
            self.assertEqual(book.steps(), (1, 1))
            step(book)
            self.assertEqual(book.steps(), (2, 0))
            self.raises(NoHistory, {"way": "redo"}, book.redo)

    def test_point_52_a_refused_step_discards_nothing(self):
        book = self.book()
        book.tell("a", "a")
        book.undo()
        for call in (lambda: book.tell("?", ""), lambda: book.tell("a", "?"), lambda: book.tell("a", "bb"),
                     lambda: book.withdraw(1), lambda: book.change_limit(-1), lambda: book.attempt([()]),
                     lambda: book.attempt([("limit", 1), ("withdraw", 1)]), book.undo):
            self.assertNotEqual(outcome(call)[0], "returns")
            self.assertEqual(book.steps(), (0, 1))
        book.redo()
        self.assertEqual(book.entries(), [(1, "a", "a")])

    def test_point_52_no_history(self):
        book = self.book()
        self.raises(NoHistory, {"way": "undo"}, book.undo)
        self.raises(NoHistory, {"way": "redo"}, book.redo)
        self.assertEqual(book.steps(), (0, 0))
        self.assertIs(book.steps().__class__, tuple)

    def test_point_52_many_steps(self):
        book = self.book(limit=3)
        for number in range(1, 201):
            self.assertEqual(book.tell("ab", "ab"), number)
            if number % 2 == 0:
                book.withdraw(number)
        self.assertEqual((len(book), book.steps()), (100, (300, 0)))
        for _ in range(300):
            book.undo()
        self.assertEqual((book.entries(), book.steps()), ([], (0, 300)))


class AccountTest(BookTest):
    def test_point_53_fitting_in_the_order_of_the_lot(self):
        rules = [Rule.read(ALPHABET, text) for text in ("drop vowels", "keep", "drop [a]", "once joints", "add a")]
        book = Book(Lot(rules), Stock.shaped(ALPHABET, "L*"))
        self.assertEqual(book.all_classes(), [[0, 2], [1, 3], [4]])
        book.tell("b", "b")
        self.assertEqual((book.left(), book.many), ([0, 1], 2))
        self.assertEqual(book.fitting(), ["drop vowels", "keep", "drop [a]", "once joints"])

    def test_points_53_and_57_no_class(self):
        book = Book(SMALL, Stock.every(ALPHABET))
        self.assertEqual(len(book.all_classes()), 3)
        for number in (3, -1, 99):
            self.raises(NoClass, {"number": number}, lambda: book.misses(number))
            self.raises(NoClass, {"number": number}, lambda: book.parted(number, 0))
            self.raises(NoClass, {"number": number}, lambda: book.parted(2, number))
            self.raises(NoClass, {"number": number}, lambda: book.parted(number, -7))

    def test_point_53_misses_of_a_class_that_is_out(self):
        book = Book(SMALL, Stock.every(ALPHABET))
        for word in ("ab", "aab", "b", "bb", "a"):
            book.tell(word, word.replace("a", ""))
        self.assertEqual([book.misses(number) for number in range(3)], [[1, 2, 5], [], [1, 2, 4, 5]])

    def test_point_54_fits_and_out(self):
        book = Book(SMALL, Stock.every(ALPHABET), limit=1)
        self.assertEqual(book.account(), [(number, "fits", []) for number in range(3)])
        for word, account in (
                ("ab", [(0, "fits", [1]), (1, "fits", []), (2, "fits", [1])]),
                ("bb", [(0, "fits", [1]), (1, "fits", []), (2, "out", [1, 2])]),
                ("aab", [(0, "out", [1, 3]), (1, "fits", []), (2, "out", [1, 2])]),
                ("aa", [(0, "out", [1, 3]), (1, "fits", []), (2, "out", [1, 2])])):
            book.tell(word, word.replace("a", ""))
            self.assertEqual(book.account(), account)
        book.change_limit(2)
        self.assertEqual(book.account(), [(0, "out", [1, 3, 4]), (1, "fits", []), (2, "out", [1, 2, 3])])
        book.withdraw(1)
        self.assertEqual(book.account(), [(0, "fits", [3, 4]), (1, "fits", []), (2, "out", [2, 3, 4])])
        book.limit = 9
        self.assertEqual(book.account(), [(0, "fits", [3, 4]), (1, "fits", []), (2, "fits", [2, 3, 4])])

    def test_point_1_told_lists_are_changed(self):
        book = Book(SMALL, Stock.every(ALPHABET), limit=2)
        book.attempt([("tell", "ab", "b"), ("tell", "aab", "b")])
        before = everything(book)
        for told in (book.entries(), book.all_classes(), book.all_classes()[0], book.left(), book.fitting(),
                     book.misses(0), book.account(), book.account()[0][2], book.account()[2][2],
                     book.answers("ab"), book.answers("ab")[0][1], *book.means("b"), book.clashes()):
            told.append(99)
        self.assertEqual(everything(book), before)
        self.assertEqual(book.answers("ab"), [("ab", [0, 2]), ("b", [1])])

    def test_points_47_to_54_a_stock_without_words(self):
        book = Book(SMALL, Stock.listed(ALPHABET, []))
        self.assertEqual((book.all_classes(), book.left(), book.many), ([[0, 1, 2]], [0], 1))
        self.raises(OutsideStock, {"word": ""}, lambda: book.tell("", ""))
        self.assertEqual(book.fitting(), ["keep", "drop vowels", "once all"])


class TwinTest(BookTest):
    def test_point_58_a_twin_is_the_same(self):
        book = Book(LOT, Stock.shaped(ALPHABET, "S*"), limit=1)
        book.tell("abba", "bb")
        book.tell("ab", "ab")
        book.change_limit(3)
        book.withdraw(1)
        book.undo()
        twin = book.twin()
        self.assertIs(twin.__class__, Book)
        self.assertEqual(everything(twin), everything(book))
        self.assertEqual(twin.steps(), (3, 1))
        self.assertEqual(twin.lot.texts(), book.lot.texts())
        self.assertTrue(twin.stock == book.stock)
        twin.redo()
        self.assertEqual(twin.entries(), [(2, "ab", "ab")])
        for _ in range(4):
            twin.undo()
        self.assertEqual((twin.entries(), twin.limit), ([], 1))
        self.assertEqual((book.steps(), book.limit), ((3, 1), 3))

    def test_point_58_neither_affects_the_other(self):
        for one, two in ((0, 1), (1, 0)):
            first = Book(SMALL, Stock.every(ALPHABET), limit=1)
            first.attempt([("tell", "ab", "ab"), ("tell", "b", "b")])
            first.tell("aab", "ab")
            first.undo()
            pair = (first, first.twin())
            before = everything(pair[two])
            for call in (lambda book: book.redo(), lambda book: book.tell("a", "a"), lambda book: book.withdraw(1),
                         lambda book: book.change_limit(0), lambda book: book.undo(), lambda book: book.undo(),
                         lambda book: book.attempt([("limit", 4)]), lambda book: book.undo()):
                call(pair[one])
                self.assertEqual(everything(pair[two]), before)
            self.assertNotEqual(everything(pair[one]), before)

    def test_point_58_a_twin_of_a_new_book_and_of_a_twin(self):
        book = Book(SMALL, Stock.every(ALPHABET), limit=2)
        other = book.twin().twin()
        self.assertEqual(everything(other), everything(book))
        other.tell("a", "a")
        self.assertEqual(len(book), 0)


class InterfaceTest(unittest.TestCase):
    def test_the_interface(self):
        self.assertEqual(Book.__module__, "cliplore.books")
        self.assertEqual(str(inspect.signature(Book)), "(lot, stock, *, limit=0)")
        arguments = {"tell": "word, short", "withdraw": "number", "change_limit": "limit", "attempt": "deeds",
                     "undo": "", "redo": "", "steps": "", "entries": "", "all_classes": "", "left": "", "fitting": "",
                     "misses": "number", "account": "", "answers": "word", "sure": "word", "unsure": "",
                     "means": "short, *, most=6", "verdict": "one, two", "parted": "one, two", "clashes": "",
                     "twin": "", "__len__": ""}
        for name, given in arguments.items():
            self.assertIn(name, vars(Book))
            found = str(inspect.signature(vars(Book)[name]))
            self.assertEqual(found, f"(self, {given})" if given else "(self)")
        for name in ("limit", "many"):
            self.assertIsInstance(vars(Book)[name], property)


if __name__ == "__main__":
    unittest.main()
