"""The machines of rules: point 33."""

import inspect
import itertools
import random
import unittest

from cliplore import machines
from cliplore.errors import Mixed
from cliplore.machines import Machine, machine_of
from cliplore.rules import Rule
from cliplore.signs import Alphabet
from cliplore.stocks import Stock
from tests import plain_stages
from tests.plain_stages import every_stage
from tests.plain_tables import check_least_form

ALPHABET = Alphabet("ba", "a")
OTHERS = (Alphabet("ba"), Alphabet("ba", "ab"), Alphabet("b"), Alphabet("ac", "a"), Alphabet("abc", "a"))
WORDS = list(plain_stages.words("-ab", 6))
SHAPES = ("S*", "(CV)+C?", "L+(-L+)*", "CVC?|J", "(a|b-)*b", "a?b?-?a?b?", "V+C*", "a")
NOTHING = ("", [[None, None, None]], [None])


def table_of(machine):
    return machine.first, machine.rows, machine.ends


def random_rules(seed, number, most):
    chance = random.Random(seed)
    stages = [stage for stage, _ in every_stage(ALPHABET)]
    yield Rule(ALPHABET)
    for _ in range(number):
        yield Rule(ALPHABET, *[chance.choice(stages) for _ in range(chance.randint(1, most))])


def many_words(stock):
    """The words of the stock of up to 14 signs, or fewer signs if they are too many."""
    return list(stock.words(max(most for most in range(15) if stock.count(most) <= 2000)))


class TextsTest(unittest.TestCase):
    def gives_the_short_forms(self, rule, stock, words):
        machine = machine_of(rule, stock)
        self.assertIs(machine.__class__, Machine)
        self.assertTrue(machine.alphabet == ALPHABET)
        with self.subTest(rule.text()):
            for word in words:
                self.assertEqual(machine.run(word), rule(word) if stock is None or word in stock else None)
        self.assertEqual(table_of(machine.least()), table_of(machine))
        return machine

    def test_point_33_every_stage_on_every_word(self):
        for stage, _ in every_stage(ALPHABET):
            self.gives_the_short_forms(Rule(ALPHABET, stage), None, WORDS)

    def test_point_33_rules_on_every_word(self):
        for rule in random_rules(33, 150, 4):
            machine = self.gives_the_short_forms(rule, None, WORDS[:364])
            self.assertTrue(machine_of(rule, Stock.every(ALPHABET)) == machine)
            self.assertTrue(machine_of(rule) == machine)

    def test_point_33_rules_on_stocks(self):
        stocks = [Stock.shaped(ALPHABET, shape) for shape in SHAPES]
        for rule, stock in zip(random_rules(34, 150, 3), itertools.cycle(stocks)):
            self.gives_the_short_forms(rule, stock, WORDS[:364])

    def test_point_33_long_words(self):
        word = "ab--bbaab-" * 6
        for rule in random_rules(35, 40, 4):
            self.assertEqual(machine_of(rule).run(word), rule(word))
            self.assertEqual(machine_of(rule, Stock.listed(ALPHABET, [word])).run(word), rule(word))

    def test_point_33_small_machines_meet_the_conditions(self):
        checked = 0
        for rule in random_rules(36, 150, 2):
            machine = machine_of(rule)
            if len(machine) <= 4:
                check_least_form(self, machine)
                checked += 1
        self.assertGreater(checked, 50)

    def test_point_33_keep_on_a_stock(self):
        machine = machine_of(Rule(ALPHABET), Stock.listed(ALPHABET, ["ab-", "aa"]))
        self.assertEqual(table_of(machine),
                         ("a", [[None, (1, ""), None], [None, (2, "a"), (3, "b-")], [None, None, None],
                                [(2, ""), None, None]], [None, None, "", None]))

    def test_point_33_the_stock_without_words(self):
        empty = Stock.listed(ALPHABET, [])
        for rule in random_rules(37, 20, 4):
            self.assertEqual(table_of(machine_of(rule, empty)), NOTHING)

    def test_point_33_the_examples(self):
        self.assertEqual(table_of(machine_of(Rule.read(ALPHABET, "add a"))),
                         ("", [[(0, "-"), (0, "a"), (0, "b")]], ["a"]))
        self.assertEqual(table_of(machine_of(Rule.read(ALPHABET, "write a for all; add a"))),
                         ("a", [[(0, "a"), (0, "a"), (0, "a")]], [""]))

    def test_point_33_eight_letters_and_four_stages(self):
        alphabet = Alphabet("abcdefgh", "aeh")
        rule = Rule.read(alphabet, "drop [-abcde] after 3 but last; drop [-defgh] after 2 each but last; "
                                   "once [acegh]; drop [-a] after 3 but last")
        machine = machine_of(rule)
        stock = Stock.shaped(alphabet, "(L?CVS+|VC(J|V)*)+")
        narrow = machine_of(rule, stock)
        chance = random.Random(38)
        for _ in range(2000):
            word = "".join(chance.choice(alphabet.signs) for _ in range(chance.randint(0, 20)))
            self.assertEqual(machine.run(word), rule(word))
            self.assertEqual(narrow.run(word), rule(word) if word in stock else None)


class EqualTest(unittest.TestCase):
    def equal_if_alike(self, rules, stock):
        words = many_words(stock)
        found = [(rule, machine_of(rule, stock), [rule(word) for word in words]) for rule in rules]
        alike = 0
        for one, two in itertools.combinations(found, 2):
            self.assertEqual(one[1] == two[1], one[2] == two[2], f"{one[0].text()} / {two[0].text()}")
            alike += one[2] == two[2]
        return alike

    def test_point_33_equal_exactly_if_they_agree(self):
        rules = list(random_rules(39, 60, 2))
        for shape in SHAPES:
            # These words tell apart every two of these rules that do not agree.
            self.assertGreater(self.equal_if_alike(rules, Stock.shaped(ALPHABET, shape)), 0)

    def test_point_33_rules_that_agree_on_a_stock_only(self):
        first, second = Rule.read(ALPHABET, "drop vowels"), Rule.read(ALPHABET, "drop vowels after 1")
        self.assertFalse(machine_of(first) == machine_of(second))
        stock = Stock.shaped(ALPHABET, "CV+")
        self.assertTrue(machine_of(first, stock) == machine_of(second, stock))
        stock = Stock.shaped(ALPHABET, "CV+|V")
        self.assertFalse(machine_of(first, stock) == machine_of(second, stock))

    def test_point_33_rules_that_agree_on_every_word(self):
        for one, two in (("drop vowels", "drop [a]"), ("add a; drop letters", "drop letters"),
                         ("once all; once all", "once all"), ("write a for [b]; write b for all", "write b for all"),
                         ("drop all after 3; drop all after 1", "drop all after 1"), ("keep", "write a for [a]"),
                         ("drop joints each", "keep")):
            self.assertTrue(machine_of(Rule.read(ALPHABET, one)) == machine_of(Rule.read(ALPHABET, two)))

    def test_point_33_one_long_word_decides(self):
        first, second = Rule(ALPHABET), Rule.read(ALPHABET, "once joints")
        stock = Stock.shaped(ALPHABET, "(L-)*L?")
        self.assertTrue(machine_of(first, stock) == machine_of(second, stock))
        more = stock | Stock.listed(ALPHABET, ["ab" * 29 + "--"])
        self.assertFalse(machine_of(first, more) == machine_of(second, more))


class WrongTest(unittest.TestCase):
    def test_point_33_other_alphabets(self):
        for other in OTHERS:
            for stock in (Stock.every(other), Stock.listed(other, [])):
                with self.assertRaises(Mixed):
                    machine_of(Rule(ALPHABET), stock)
                with self.assertRaises(Mixed):
                    machine_of(Rule.read(ALPHABET, "add a; once all"), stock)
            with self.assertRaises(Mixed):
                machine_of(Rule(other), Stock.every(ALPHABET))
        self.assertEqual(len(machine_of(Rule(ALPHABET), Stock.every(Alphabet("ab", "a")))), 1)

    def test_point_1_arguments_are_not_modified(self):
        rule, stock = Rule.read(ALPHABET, "add a; once all"), Stock.shaped(ALPHABET, "(CV)+")
        before = repr([rule.text(), stock.rows, stock.goods])
        machine = machine_of(rule, stock)
        machine.rows[0][0] = machine.rows[0][2] = None
        machine.ends.clear()
        self.assertEqual(repr([rule.text(), stock.rows, stock.goods]), before)
        self.assertEqual(machine_of(rule, stock).run("ba"), "ba")

    def test_the_interface(self):
        self.assertEqual(machines.machine_of.__module__, "cliplore.machines")
        self.assertEqual(str(inspect.signature(machines.machine_of)), "(rule, stock=None)")
        self.assertTrue(machine_of(rule=Rule(ALPHABET), stock=None) == machine_of(Rule(ALPHABET)))


if __name__ == "__main__":
    unittest.main()
