"""Lots: points 44 to 46."""

import inspect
import itertools
import unittest

from cliplore import lots
from cliplore.errors import BadLimit, BadLot, BadRule, BadStage, Mixed, TooMany
from cliplore.lots import Lot
from cliplore.machines import machine_of
from cliplore.rules import Rule
from cliplore.signs import Alphabet
from cliplore.stages import Add, Once, read_stage
from cliplore.stocks import Stock
from tests import plain_stages
from tests.test_machine_of import random_rules

ALPHABET = Alphabet("ba", "a")
OTHERS = (Alphabet("ba"), Alphabet("ba", "ab"), Alphabet("b"), Alphabet("ac", "a"), Alphabet("abc", "a"))
WORDS = list(plain_stages.words("-ab", 6))
SHAPES = ("S*", "(CV)+C?", "L+(-L+)*", "CVC?|J", "CV+", "a")
STAGES = ("drop vowels", "once all", "add a", "drop all after 2 each but last", "write a for [b]", "drop joints",
          "drop vowels after 1", "add b", "once letters", "drop [a]", "drop letters after 1 each", "write - for all",
          "drop all", "once joints", "drop consonants but last")


def read(text):
    return Rule.read(ALPHABET, text)


def different(rules):
    return list({str(rule): rule for rule in rules}.values())


class LotTest(unittest.TestCase):
    def refused(self, number, rules):
        with self.assertRaises(BadLot) as caught:
            Lot(rules)
        self.assertEqual(caught.exception.number, number)

    def test_point_44_the_rules_stay_in_their_order(self):
        rules = different(random_rules(44, 30, 4))
        for many in (1, 2, 30):
            lot = Lot(rules[:many])
            self.assertEqual(lot.texts(), [str(rule) for rule in rules[:many]])
            self.assertEqual(len(lot), len(rules[:many]))
            self.assertIs(lot.rules.__class__, list)
            self.assertTrue(lot.rules == rules[:many])
            self.assertTrue(lot.alphabet == ALPHABET)
        self.assertEqual(Lot.MOST, 200)

    def test_point_44_an_empty_list(self):
        self.refused(0, [])

    def test_point_44_the_first_rule_that_is_equal_to_an_earlier_one(self):
        keep, drop, once = read("keep"), read("drop vowels"), read("once all")
        self.refused(2, [keep, keep])
        self.refused(3, [keep, drop, Rule(ALPHABET), once, once])
        self.refused(4, [keep, drop, once, drop, keep])
        self.refused(3, [drop, once, Rule.read(Alphabet("ab", "a"), "drop vowels")])
        # Rules that do the same are not equal if their written forms differ.
        self.assertEqual(len(Lot([drop, read("drop [a]"), read("drop vowels; drop vowels")])), 3)

    def test_point_44_the_first_rule_that_has_another_alphabet(self):
        keep, drop = read("keep"), read("drop vowels")
        for other in OTHERS:
            foreign = Rule.read(other, "once all")
            self.refused(2, [keep, foreign])
            self.refused(2, [foreign, keep])
            self.refused(3, [keep, drop, foreign, keep, foreign])
            self.refused(3, [keep, drop, drop, foreign])
            self.refused(2, [keep, Rule(other)])
        self.assertEqual(len(Lot([keep, Rule.read(Alphabet("ab", "a"), "once all")])), 2)

    def test_point_44_more_rules_than_a_made_lot_has(self):
        stages = [f"drop {name}{after}{each}{last}" for name in plain_stages.NAMES[:7] + plain_stages.NAMES[-3:]
                  for after in ("", " after 1", " after 2", " after 3") for each in ("", " each")
                  for last in ("", " but last")]
        rules = [read(text) for text in stages] + [read(f"{text}; add a") for text in stages]
        self.assertGreater(len(rules), 201)
        lot = Lot(rules[:201])
        self.assertEqual((len(lot), len(lot.texts())), (201, 201))
        self.refused(202, [*rules[:201], rules[0]])

    def test_point_1_the_caller_changes_the_list(self):
        rules = [read("keep"), read("drop vowels")]
        lot = Lot(rules)
        rules.append(read("add a"))
        rules[0] = read("add b")
        self.assertEqual(lot.texts(), ["keep", "drop vowels"])
        self.assertEqual(len(lot), 2)
        lot.texts().clear()
        self.assertEqual(lot.texts(), ["keep", "drop vowels"])


class MadeTest(unittest.TestCase):
    def made_raises(self, error, attributes, *stages, **more):
        with self.subTest(f"{stages} {more}"):
            with self.assertRaises(error) as caught:
                Lot.made(ALPHABET, *stages, **more)
            self.assertEqual(vars(caught.exception), attributes)

    def test_point_45_all_rules_in_their_order(self):
        for stages, depth in itertools.product([STAGES[:1], STAGES[:2], STAGES[2:5]], range(4)):
            lot = Lot.made(ALPHABET, *stages, depth=depth)
            expected = [list(chosen) for size in range(depth + 1) for chosen in itertools.product(stages, repeat=size)]
            self.assertEqual(lot.texts(), ["; ".join(chosen) or "keep" for chosen in expected])
            self.assertIs(lot.__class__, Lot)
            self.assertTrue(lot.alphabet == ALPHABET)
        self.assertEqual(Lot.made(ALPHABET, "once all", "add b", "add a", depth=1).texts(),
                         ["keep", "once all", "add b", "add a"])
        self.assertEqual(Lot.made(ALPHABET, "add b", "add a", depth=2).texts(),
                         ["keep", "add b", "add a", "add b; add b", "add b; add a", "add a; add b", "add a; add a"])

    def test_point_45_the_depth_left_out(self):
        self.assertEqual(Lot.made(ALPHABET, *STAGES[:3]).texts(), Lot.made(ALPHABET, *STAGES[:3], depth=2).texts())
        self.assertEqual(len(Lot.made(ALPHABET, *STAGES[:3])), 13)

    def test_point_45_no_stages(self):
        self.assertEqual(Lot.made(ALPHABET).texts(), ["keep"])
        for depth in range(4):
            self.assertEqual(Lot.made(ALPHABET, depth=depth).texts(), ["keep"])

    def test_point_45_the_rules_do_what_their_texts_say(self):
        lot = Lot.made(ALPHABET, *STAGES[:5])
        for rule, text in zip(lot.rules, lot.texts()):
            self.assertTrue(rule == read(text))
            for word in ("", "abba", "-aab-b", "bb--a"):
                self.assertEqual(rule(word), read(text)(word))

    def test_point_45_wrong_depths(self):
        for depth in (-1, -7, 4, 5, 60):
            self.made_raises(BadLimit, {"asked": depth}, *STAGES[:2], depth=depth)
            self.made_raises(BadLimit, {"asked": depth}, depth=depth)

    def test_point_45_wrong_stages(self):
        for text in ("keep", "", "drop all; once all", "add a; add b", "add c", "drop", "drop vowel", "once  all",
                     "drop all after each", "drop all after 4", "write c for x", "write a for x", " add a", "add a;"):
            with self.assertRaises(BadStage) as caught:
                read_stage(ALPHABET, text)
            what = caught.exception.what
            for depth in range(4):
                self.made_raises(BadRule, {"stage": 1, "what": what}, text, depth=depth)
                self.made_raises(BadRule, {"stage": 3, "what": what}, "add a", "add b", text, "no", depth=depth)
        self.made_raises(BadRule, {"stage": 1, "what": "text"}, "keep")
        self.made_raises(BadRule, {"stage": 1, "what": "set"}, "once vowel")
        self.made_raises(BadRule, {"stage": 2, "what": "text"}, "once all", "once all; add a")

    def test_point_45_stages_twice(self):
        for depth in range(4):
            self.made_raises(BadLot, {"number": 2}, "add a", "add a", depth=depth)
            self.made_raises(BadLot, {"number": 4}, "add b", "add a", "once all", "add a", "add b", depth=depth)
        # These do the same, but their written forms differ.
        self.assertEqual(len(Lot.made(ALPHABET, "drop vowels", "drop [a]", depth=1)), 3)

    def test_point_45_too_many(self):
        names = [f"drop {name}{after}{each}" for name in plain_stages.NAMES for after in ("", " after 1", " after 2",
                 " after 3") for each in ("", " each", " but last", " each but last")]
        self.assertEqual(len(names), 192)
        names += ["add a", "add b", "add -", *[f"once {name}" for name in plain_stages.NAMES]]
        self.assertEqual(len(Lot.made(ALPHABET, *names[:199], depth=1)), 200)
        self.made_raises(TooMany, {"number": 201}, *names[:200], depth=1)
        self.assertEqual(len(Lot.made(ALPHABET, *names[:201], depth=0)), 1)
        self.assertEqual(len(Lot.made(ALPHABET, *names[:13])), 1 + 13 + 169)
        self.made_raises(TooMany, {"number": 1 + 14 + 196}, *names[:14])
        self.assertEqual(len(Lot.made(ALPHABET, *names[:5], depth=3)), 1 + 5 + 25 + 125)
        self.made_raises(TooMany, {"number": 1 + 6 + 36 + 216}, *names[:6], depth=3)
        self.made_raises(TooMany, {"number": 1 + 100 + 10000 + 1000000}, *names[:100], depth=3)

    def test_point_45_each_check_beside_each_later_one(self):
        many = STAGES[:14]
        self.made_raises(BadLimit, {"asked": 4}, "no", "add a", "add a", *many, depth=4)
        self.made_raises(BadLimit, {"asked": -1}, "add a", "add a", depth=-1)
        self.made_raises(BadLimit, {"asked": 9}, *many, depth=9)
        self.made_raises(BadRule, {"stage": 16, "what": "text"}, *many, "drop vowels", "no")
        self.made_raises(BadRule, {"stage": 3, "what": "sign"}, "add a", "add a", "add c", depth=0)
        self.made_raises(BadRule, {"stage": 15, "what": "set"}, *many, "once x", "no")
        self.made_raises(BadLot, {"number": 15}, *many, "drop vowels")
        self.made_raises(BadLot, {"number": 2}, "add a", "add a", depth=0)


class ClassesTest(unittest.TestCase):
    def plain_classes(self, lot, words):
        classes = {}
        for number, rule in enumerate(lot.rules):
            classes.setdefault(tuple(rule(word) for word in words), []).append(number)
        return list(classes.values())

    def test_point_46_against_short_words(self):
        lots_to_try = [Lot.made(ALPHABET, *STAGES[:7]), Lot.made(ALPHABET, *STAGES[5:11]),
                       Lot.made(ALPHABET, "drop vowels", "drop vowels after 1", "once all", depth=3)]
        for lot, shape in itertools.product(lots_to_try, SHAPES):
            stock = Stock.shaped(ALPHABET, shape)
            words = [word for word in WORDS if word in stock] + list(itertools.islice(stock.words(12), 300))
            self.assertEqual(lot.classes_on(stock), self.plain_classes(lot, words), shape)

    def test_point_46_against_the_machines_of_the_rules(self):
        lot = Lot(different(random_rules(46, 40, 3)))
        for shape in SHAPES:
            stock = Stock.shaped(ALPHABET, shape)
            classes = lot.classes_on(stock)
            self.assertEqual(sorted(itertools.chain(*classes)), list(range(len(lot))))
            self.assertEqual(classes, sorted(sorted(numbers) for numbers in classes))
            found = {number: index for index, numbers in enumerate(classes) for number in numbers}
            machines = [machine_of(rule, stock) for rule in lot.rules]
            for one, two in itertools.combinations(range(len(lot)), 2):
                self.assertEqual(found[one] == found[two], machines[one] == machines[two])

    def test_point_46_the_order_of_the_classes(self):
        lot = Lot([read(text) for text in ("add a", "keep", "drop [a]", "add a; once [b]", "once joints", "drop vowels",
                                           "add a; once joints")])
        self.assertEqual(lot.classes_on(Stock.shaped(ALPHABET, "L*")), [[0, 6], [1, 4], [2, 5], [3]])
        self.assertEqual(lot.classes_on(Stock.every(ALPHABET)), [[0], [1], [2, 5], [3], [4], [6]])
        self.assertEqual(lot.classes_on(Stock.shaped(ALPHABET, "(b-)*")), [[0, 3, 6], [1, 2, 4, 5]])

    def test_point_46_no_words_and_one_word(self):
        lot = Lot.made(ALPHABET, *STAGES[:4])
        self.assertEqual(lot.classes_on(Stock.listed(ALPHABET, [])), [list(range(21))])
        for word in ("", "ab", "-bab-"):
            self.assertEqual(lot.classes_on(Stock.listed(ALPHABET, [word])), self.plain_classes(lot, [word]))
        self.assertEqual(Lot([read("once all")]).classes_on(Stock.every(ALPHABET)), [[0]])

    def test_point_46_one_long_word_decides(self):
        lot = Lot([read("keep"), read("once joints")])
        stock = Stock.shaped(ALPHABET, "(L-)*L?")
        self.assertEqual(lot.classes_on(stock), [[0, 1]])
        self.assertEqual(lot.classes_on(stock | Stock.listed(ALPHABET, ["ab" * 29 + "--"])), [[0], [1]])

    def test_point_46_mixed(self):
        lot = Lot([read("keep")])
        for other in OTHERS:
            for stock in (Stock.every(other), Stock.listed(other, [])):
                with self.assertRaises(Mixed):
                    lot.classes_on(stock)
        self.assertEqual(lot.classes_on(Stock.every(Alphabet("ab", "a"))), [[0]])

    def test_point_1_the_told_lists_are_changed(self):
        lot, stock = Lot.made(ALPHABET, *STAGES[:2]), Stock.shaped(ALPHABET, "CV+")
        expected = lot.classes_on(stock)
        told = lot.classes_on(stock)
        told[0].append(99)
        told.pop()
        self.assertEqual(lot.classes_on(stock), expected)


class InterfaceTest(unittest.TestCase):
    def test_the_interface(self):
        self.assertEqual(Lot.__module__, "cliplore.lots")
        self.assertEqual(str(inspect.signature(Lot)), "(rules)")
        self.assertEqual(str(inspect.signature(Lot.made)), "(alphabet, *stages, depth=2)")
        self.assertEqual(str(inspect.signature(Lot.classes_on)), "(self, stock)")
        for name in ("made", "texts", "classes_on", "__len__"):
            self.assertIn(name, vars(lots.Lot))
        self.assertIsInstance(vars(Lot)["made"], classmethod)
        lot = Lot([Rule(ALPHABET, Add(ALPHABET, "a"), Once(ALPHABET, "all"))])
        self.assertEqual(lot.texts(), ["add a; once all"])


if __name__ == "__main__":
    unittest.main()
