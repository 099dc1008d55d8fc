"""Comparing two rules: points 34 to 37."""

import copy
import inspect
import itertools
import random
import unittest

from cliplore import comparing
from cliplore.comparing import check_alike, compare, parting_word
from cliplore.errors import Mixed
from cliplore.machines import machine_of
from cliplore.rules import Rule
from cliplore.signs import Alphabet
from cliplore.stocks import Stock
from tests import plain_stages
from tests.plain_rows import alike_holds, alike_rows
from tests.plain_tables import random_table
from tests.test_machine_of import random_rules

ALPHABET = Alphabet("ba", "a")
OTHERS = (Alphabet("ba"), Alphabet("ba", "ab"), Alphabet("b"), Alphabet("ac", "a"), Alphabet("abc", "a"))
WORDS = list(plain_stages.words("-ab", 6))
SHAPES = ("S*", "(CV)+C?", "L+(-L+)*", "CVC?|J", "(a|b-)*b", "a?b?-?a?b?", "V+C*", "a", "(bbb)*")
# Rules that agree on many words.
CLOSE = ("keep", "drop vowels", "drop vowels after 1", "drop vowels after 2", "drop [a]", "drop [a] but last",
         "once all", "once letters", "once joints", "add a; drop all after 3", "write a for [a]",
         "drop all after 3 each", "drop letters after 3 each but last", "add a", "add a; once all",
         "drop all; add a", "write a for all; drop all after 1; once all", "add a; write a for [b]", "add b; add a")


def read(text):
    return Rule.read(ALPHABET, text)


def some_stocks(seed, number):
    chance = random.Random(seed)
    yield Stock.listed(ALPHABET, [])
    yield Stock.listed(ALPHABET, [""])
    for shape in SHAPES:
        yield Stock.shaped(ALPHABET, shape)
    for _ in range(number):
        yield Stock(ALPHABET, *random_table(chance, 4))


def alike_cases():
    """Rules and stocks on which they agree, with the table that compare tells."""
    pairs = list(itertools.product([read(text) for text in CLOSE], repeat=2))
    stocks = list(some_stocks(35, 6))
    for number, (first, second) in enumerate(pairs):
        # Each pair with every fifth stock only, so that the tests do not take long.
        for stock in stocks[number % 5::5]:
            told = compare(first, second, stock)
            if told[0] == "alike":
                yield first, second, stock, told[1]


class PartingTest(unittest.TestCase):
    def is_right(self, first, second, stock):
        with self.subTest(f"{first} / {second} / {stock.rows} {stock.goods}"):
            expected = next((word for word in WORDS if word in stock and first(word) != second(word)), None)
            found = parting_word(first, second, stock)
            if expected is None and found is not None:
                self.assertGreater(len(found), 6)
                self.assertIn(found, stock)
                self.assertNotEqual(first(found), second(found))
            else:
                self.assertEqual(found, expected)
            self.assertEqual(parting_word(second, first, stock), found)
            self.assertEqual(found is None, machine_of(first, stock) == machine_of(second, stock))
        return found

    def test_point_34_random_rules(self):
        rules = list(random_rules(34, 32, 3))
        for (first, second), stock in zip(itertools.combinations(rules, 2), itertools.cycle(some_stocks(34, 30))):
            self.is_right(first, second, stock)

    def test_point_34_close_rules(self):
        rules = [read(text) for text in CLOSE]
        alike = 0
        stocks = list(some_stocks(33, 4))
        for number, (first, second) in enumerate(itertools.combinations(rules, 2)):
            for stock in stocks[number % 3::3]:
                alike += self.is_right(first, second, stock) is None
        self.assertGreater(alike, 200)

    def test_point_34_a_rule_and_itself(self):
        for rule in random_rules(35, 20, 4):
            for stock in some_stocks(36, 4):
                self.assertIsNone(parting_word(rule, rule, stock))
                self.assertIsNone(parting_word(rule, Rule.read(ALPHABET, str(rule)), stock))

    def test_point_34_no_words_and_the_empty_word(self):
        nothing, empty = Stock.listed(ALPHABET, []), Stock.listed(ALPHABET, [""])
        for first, second in itertools.product(random_rules(37, 15, 3), repeat=2):
            self.assertIsNone(parting_word(first, second, nothing))
            self.assertEqual(parting_word(first, second, empty), None if first("") == second("") else "")

    def test_point_34_shortlex_and_not_as_strings(self):
        stock = Stock.listed(ALPHABET, ["b", "aab", "ab", "ba", "-aa"])
        self.assertEqual(parting_word(read("keep"), read("drop [a]"), stock), "ab")
        self.assertEqual(parting_word(read("keep"), read("drop [b]"), stock), "b")
        self.assertEqual(parting_word(read("keep"), read("once [a]"), stock), "-aa")
        self.assertEqual(parting_word(read("keep"), read("drop all after 2"), stock), "-aa")

    def test_point_34_behind_a_long_way(self):
        keep, once = read("keep"), read("once joints")
        words = ["ab" * 29 + "--", "ab" * 29 + "b-", "ba" * 28 + "---a"]
        stock = Stock.shaped(ALPHABET, "(L-)*L?") | Stock.listed(ALPHABET, words)
        self.assertEqual(parting_word(keep, once, stock), words[0])
        # Only the lengths 30 + 31 k belong to the stock, and the rules part from three signs on.
        rows = [[(place + 1) % 31] * 3 for place in range(31)]
        stock = Stock(ALPHABET, rows, [place == 30 for place in range(31)])
        self.assertEqual(parting_word(keep, read("drop all after 3"), stock), "-" * 30)
        self.assertEqual(parting_word(keep, read("drop [b]"), stock), "-" * 29 + "b")

    def test_point_34_the_texts_part_later_than_the_words(self):
        # The first rule writes one sign more from the first vowel on, but what follows makes up for it.
        first, second = read("drop vowels after 1; drop all after 2"), read("drop vowels; drop all after 2")
        self.is_right(first, second, Stock.shaped(ALPHABET, "CCV*"))
        self.is_right(first, second, Stock.shaped(ALPHABET, "V+C*"))
        # The texts are shifted against each other for as long as the word has one sign only.
        stock = Stock.shaped(ALPHABET, "b+(aaab)?b*")
        self.is_right(read("add b; drop [b] after 3"), read("drop [b] after 3; add b"), stock)
        self.is_right(read("drop [b] after 1 but last"), read("drop [b] after 2"), stock)

    def test_point_34_more_than_two_delays(self):
        # Which of many words that lead to the same places parts first depends on what they have written.
        for text, other in itertools.combinations(CLOSE, 2):
            for shape in ("a*b*a*", "(a|b|bb)*-b*", "a*(ba)*-*", "(aab|aba)*(J|b)"):
                self.is_right(read(text), read(other), Stock.shaped(ALPHABET, shape))

    def test_point_34_eight_letters(self):
        alphabet = Alphabet("abcdefgh", "ae")
        first = Rule.read(alphabet, "drop vowels after 1 each; once consonants")
        second = Rule.read(alphabet, "drop vowels after 2 each; once consonants")
        stock = Stock.shaped(alphabet, "CCCV(JC+)*")
        self.assertEqual(parting_word(first, second, stock), None)
        self.assertEqual(parting_word(first, second, stock | Stock.shaped(alphabet, "J?VVVV")), "aaaa")

    def test_points_34_36_and_37_mixed(self):
        for other in OTHERS:
            rule, foreign = Rule(ALPHABET), Rule(other)
            for stock, foreign_stock in ((Stock.every(ALPHABET), Stock.every(other)),
                                         (Stock.listed(ALPHABET, []), Stock.listed(other, []))):
                for odd in ((foreign, rule, stock), (rule, foreign, stock), (rule, rule, foreign_stock)):
                    for call in (parting_word, compare, lambda *three: check_alike(*three, [])):
                        with self.assertRaises(Mixed):
                            call(*odd)
        equal = Rule(Alphabet("ab", "a"))
        self.assertIsNone(parting_word(Rule(ALPHABET), equal, Stock.every(Alphabet("ba", "a"))))


class CompareTest(unittest.TestCase):
    def test_point_36_parted(self):
        rules = list(random_rules(36, 25, 3))
        for (first, second), stock in zip(itertools.combinations(rules, 2), itertools.cycle(some_stocks(36, 20))):
            told = compare(first, second, stock)
            self.assertIs(told.__class__, tuple)
            word = parting_word(first, second, stock)
            if word is None:
                self.assertEqual(told[0], "alike")
            else:
                self.assertEqual(told, ("parted", word))

    def test_point_36_alike(self):
        checked = 0
        for first, second, stock, rows in alike_cases():
            with self.subTest(f"{first} / {second} / {stock.rows} {stock.goods}"):
                self.assertEqual(rows, alike_rows(first, second, stock, WORDS))
                self.assertEqual({row.__class__ for row in rows}, {tuple} if rows else set())
                self.assertTrue(alike_holds(first, second, stock, rows))
                self.assertTrue(check_alike(first, second, stock, rows))
            checked += 1
        self.assertGreater(checked, 300)

    def test_point_36_ascending(self):
        told = compare(read("drop vowels"), read("drop vowels after 1"), Stock.shaped(ALPHABET, "CV+"))
        self.assertEqual(told, ("alike", [(0, 0, 0, "", ""), (1, 0, 1, "", ""), (2, 0, 1, "", "")]))
        # More than ten places, so that numbers and strings are ordered in another way.
        words = ["ab" * 6, "ba" * 6 + "b"]
        kind, rows = compare(read("keep"), read("once all"), Stock.listed(ALPHABET, words))
        self.assertEqual((kind, len(rows)), ("alike", 14))
        self.assertEqual(rows, sorted(rows))
        self.assertEqual([row[0] for row in rows], sorted(row[0] for row in rows))

    def test_point_36_texts_that_remain(self):
        stock = Stock.shaped(ALPHABET, "a+b")
        self.assertEqual(compare(read("add b; drop [b] after 3"), read("drop [b] after 3; add b"),
                                 Stock.shaped(ALPHABET, "a")), ("alike", alike_rows(
                                     read("add b; drop [b] after 3"), read("drop [b] after 3; add b"),
                                     Stock.shaped(ALPHABET, "a"), WORDS)))
        one, two = read("drop [a] but last; add b"), read("drop [a]; add b")
        kind, rows = compare(one, two, stock)
        self.assertEqual((kind, rows), ("alike", alike_rows(one, two, stock, WORDS)))
        found = [compare(first, second, stock)[1] for first, second in itertools.permutations(
            [read("drop [a] after 1; drop all after 2 but last"), read("drop [a] after 1")])]
        for row, turned in zip(*found):
            self.assertEqual(row[3:], (turned[4], turned[3]))

    def test_point_36_no_words(self):
        nothing = Stock.listed(ALPHABET, [])
        for first, second in itertools.product(random_rules(38, 10, 3), repeat=2):
            self.assertEqual(compare(first, second, nothing), ("alike", []))
        self.assertEqual(compare(read("add a"), read("add b"), Stock.shaped(Alphabet("ba", "a"), "V") - Stock.every(
            ALPHABET)), ("alike", []))

    def test_point_36_the_empty_word(self):
        empty = Stock.listed(ALPHABET, [""])
        self.assertEqual(compare(read("keep"), read("once all"), empty), ("alike", [(0, 0, 0, "", "")]))
        self.assertEqual(compare(read("add a"), read("write a for all; add a"), empty),
                         ("alike", [(0, 0, 0, "", "a")]))
        self.assertEqual(compare(read("write a for all; add a"), read("add a"), empty),
                         ("alike", [(0, 0, 0, "a", "")]))
        self.assertEqual(compare(read("add a"), read("add b"), empty), ("parted", ""))

    def test_point_1_the_lists_are_fresh(self):
        first, second, stock = read("drop vowels"), read("drop vowels after 1"), Stock.shaped(ALPHABET, "CV+")
        told = compare(first, second, stock)
        told[1].clear()
        self.assertEqual(len(compare(first, second, stock)[1]), 3)
        self.assertEqual(list(stock.words(3)), ["ba", "baa"])


class CheckTest(unittest.TestCase):
    first, second = read("drop vowels"), read("drop vowels after 1")
    stock = Stock.shaped(ALPHABET, "CV+")
    rows = [(0, 0, 0, "", ""), (1, 0, 1, "", ""), (2, 0, 1, "", "")]

    def told(self, rows):
        before = copy.deepcopy(rows)
        found = check_alike(self.first, self.second, self.stock, rows)
        self.assertEqual(rows, before)
        self.assertIs(found, alike_holds(self.first, self.second, self.stock, rows))
        return found

    def test_point_37_a_told_table_in_any_order(self):
        for rows in itertools.permutations(self.rows):
            self.assertIs(self.told(list(rows)), True)

    def test_point_37_a_row_left_out(self):
        for row in self.rows:
            self.assertIs(self.told([other for other in self.rows if other != row]), False)
        self.assertIs(self.told([]), False)

    def test_point_37_a_row_twice(self):
        for row in self.rows:
            self.assertIs(self.told([*self.rows, row]), False)
            self.assertIs(self.told([*self.rows, (*row[:3], "a", "")]), False)

    def test_point_37_places_that_do_not_exist(self):
        for wrong in ((3, 0, 1), (0, 1, 0), (0, 0, 2), (-1, 0, 0), (0, -1, 0), (0, 0, -1), (99, 99, 99)):
            self.assertIs(self.told([*self.rows, (*wrong, "", "")]), False)
            self.assertIs(self.told([(*wrong, "", ""), *self.rows]), False)

    def test_point_37_other_texts(self):
        for index, texts in itertools.product(range(3), [("a", ""), ("", "b"), ("-", ""), ("", "?"), ("a", "a")]):
            rows = list(self.rows)
            rows[index] = (*rows[index][:3], *texts)
            self.assertIs(self.told(rows), False)

    def test_point_37_further_rows(self):
        # No word leads to these rows. The first two hold, since no good place follows with other texts.
        self.assertIs(self.told([*self.rows, (1, 0, 0, "", "")]), False)
        self.assertIs(self.told([*self.rows, (2, 0, 0, "", "")]), False)
        self.assertIs(self.told([*self.rows, (0, 0, 1, "", "")]), True)
        self.assertIs(self.told([*self.rows, (0, 0, 1, "a", "")]), False)
        self.assertIs(self.told([(0, 0, 1, "", ""), *reversed(self.rows)]), True)

    def test_point_37_two_texts_that_are_not_empty(self):
        # Even if everything that follows agrees: the two texts are equal.
        self.assertIs(self.told([*self.rows, (0, 0, 1, "b", "b")]), False)
        self.assertIs(self.told([*self.rows, (0, 0, 1, "a", "b")]), False)

    def test_point_37_no_words(self):
        nothing = Stock.listed(ALPHABET, [])
        rules = [read(text) for text in ("keep", "add a", "drop vowels after 1")]
        for first, second in itertools.product(rules, repeat=2):
            for rows, expected in (([], True), ([(0, 0, 0, "", "")], True), ([(0, 0, 0, "ab", "")], True),
                                   ([(0, 0, 0, "", "x")], True), ([(0, 0, 0, "a", "a")], False),
                                   ([(1, 0, 0, "", "")], False), ([(0, 0, -1, "", "")], False),
                                   ([(0, 0, 0, "", ""), (0, 0, 0, "a", "")], False)):
                self.assertIs(check_alike(first, second, nothing, rows), expected)

    def test_point_37_rules_that_part(self):
        for first, second in itertools.product([read(text) for text in CLOSE[:8]], repeat=2):
            stock = Stock.shaped(ALPHABET, "S?S?")
            rows = alike_rows(first, second, stock, WORDS)
            agree = parting_word(first, second, stock) is None
            self.assertIs(check_alike(first, second, stock, rows), agree)

    def test_point_37_changed_tables(self):
        chance = random.Random(37)
        found = {True: 0, False: 0}
        for first, second, stock, rows in itertools.islice(alike_cases(), 0, None, 3):
            sizes = [len(stock.rows), len(machine_of(first)), len(machine_of(second))]
            for _ in range(4):
                changed = list(rows)
                chance.shuffle(changed)
                for _ in range(chance.randint(1, 2)):
                    row = (*[chance.randrange(size) for size in sizes], *chance.choice(
                        [("", ""), ("", ""), ("a", ""), ("", "b"), ("ab", "")]))
                    changed.insert(chance.randint(0, len(changed)), row)
                expected = alike_holds(first, second, stock, changed)
                self.assertIs(check_alike(first, second, stock, changed), expected)
                found[expected] += 1
        self.assertGreater(min(found.values()), 20)


class InterfaceTest(unittest.TestCase):
    def test_the_interface(self):
        for name, arguments in (("parting_word", "(first, second, stock)"), ("compare", "(first, second, stock)"),
                                ("check_alike", "(first, second, stock, rows)")):
            function = getattr(comparing, name)
            self.assertEqual(function.__module__, "cliplore.comparing")
            self.assertEqual(str(inspect.signature(function)), arguments)


if __name__ == "__main__":
    unittest.main()
