"""The examples of the document that need alphabets, stages, rules, stocks and machines only."""

import unittest

from cliplore.errors import BadRule, BadShape, BadStage
from cliplore.machines import machine_of
from cliplore.rules import Rule
from cliplore.signs import Alphabet
from cliplore.stages import read_stage
from cliplore.stocks import Stock


class ExamplesTest(unittest.TestCase):
    def test_the_members_of_an_alphabet(self):
        alphabet = Alphabet('cab', 'a')
        self.assertEqual(alphabet.members('consonants'), 'bc')

    def test_a_trace(self):
        alphabet = Alphabet('northwes', 'eo')
        rule = Rule.read(alphabet, 'drop vowels after 1 each; drop joints')
        self.assertEqual(rule.trace('north-west'), ['north-west', 'nrth-wst', 'nrthwst'])

    def test_a_short_form(self):
        alphabet = Alphabet('northwes', 'eo')
        rule = Rule.read(alphabet, 'drop letters after 1 each; drop joints')
        self.assertEqual(rule('north-west'), 'nw')

    def test_but_last(self):
        alphabet = Alphabet('west', 'e')
        self.assertEqual(Rule.read(alphabet, 'drop all after 2 but last')('west'), 'wet')

    def test_a_wrong_rule(self):
        alphabet = Alphabet('ba', 'a')
        with self.assertRaises(BadRule) as caught:
            Rule.read(alphabet, 'drop vowels; once vowel')
        self.assertEqual((caught.exception.stage, caught.exception.what), (2, 'set'))

    def test_a_shape(self):
        alphabet = Alphabet('ba', 'a')
        self.assertEqual(list(Stock.shaped(alphabet, '(CV)+C?').words(3)), ['ba', 'bab'])

    def test_a_wrong_shape(self):
        alphabet = Alphabet('ba', 'a')
        with self.assertRaises(BadShape) as caught:
            Stock.shaped(alphabet, 'a**')
        self.assertEqual(caught.exception.place, 2)

    def test_a_machine(self):
        alphabet = Alphabet('ba', 'a')
        machine = machine_of(Rule.read(alphabet, 'add a'))
        self.assertEqual([machine.first, machine.rows, machine.ends],
                         ['', [[(0, '-'), (0, 'a'), (0, 'b')]], ['a']])

    def test_a_machine_that_writes_early(self):
        alphabet = Alphabet('ba', 'a')
        machine = machine_of(Rule.read(alphabet, 'write a for all; add a'))
        self.assertEqual([machine.first, machine.rows, machine.ends],
                         ['a', [[(0, 'a'), (0, 'a'), (0, 'a')]], ['']])

    def test_a_wrong_stage(self):
        alphabet = Alphabet('ba', 'a')
        with self.assertRaises(BadStage) as caught:
            read_stage(alphabet, 'drop all after each')
        self.assertEqual(caught.exception.what, 'after')


if __name__ == "__main__":
    unittest.main()
