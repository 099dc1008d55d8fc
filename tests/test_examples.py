"""The examples of the document. Each block is a session of its own."""

import ast
import unittest

from cliplore.errors import ClipError

SESSIONS = r"""
>>> from cliplore.signs import Alphabet
>>> alphabet = Alphabet('cab', 'a')
>>> alphabet.members('consonants')
'bc'

>>> from cliplore.signs import Alphabet
>>> alphabet = Alphabet('northwes', 'eo')
>>> from cliplore.rules import Rule
>>> rule = Rule.read(alphabet, 'drop vowels after 1 each; drop joints')
>>> rule.trace('north-west')
['north-west', 'nrth-wst', 'nrthwst']

>>> from cliplore.signs import Alphabet
>>> alphabet = Alphabet('northwes', 'eo')
>>> from cliplore.rules import Rule
>>> rule = Rule.read(alphabet, 'drop letters after 1 each; drop joints')
>>> rule('north-west')
'nw'

>>> from cliplore.signs import Alphabet
>>> alphabet = Alphabet('west', 'e')
>>> from cliplore.rules import Rule
>>> Rule.read(alphabet, 'drop all after 2 but last')('west')
'wet'

>>> from cliplore.signs import Alphabet
>>> alphabet = Alphabet('ba', 'a')
>>> from cliplore.rules import Rule
>>> Rule.read(alphabet, 'drop vowels; once vowel')
raises BadRule(stage=2, what='set')

>>> from cliplore.signs import Alphabet
>>> alphabet = Alphabet('ba', 'a')
>>> from cliplore.stocks import Stock
>>> list(Stock.shaped(alphabet, '(CV)+C?').words(3))
['ba', 'bab']

>>> from cliplore.signs import Alphabet
>>> alphabet = Alphabet('ba', 'a')
>>> from cliplore.stocks import Stock
>>> Stock.shaped(alphabet, 'a**')
raises BadShape(place=2)

>>> from cliplore.signs import Alphabet
>>> alphabet = Alphabet('ba', 'a')
>>> from cliplore.rules import Rule
>>> from cliplore.machines import machine_of
>>> machine = machine_of(Rule.read(alphabet, 'add a'))
>>> [machine.first, machine.rows, machine.ends]
['', [[(0, '-'), (0, 'a'), (0, 'b')]], ['a']]

>>> from cliplore.signs import Alphabet
>>> alphabet = Alphabet('ba', 'a')
>>> from cliplore.rules import Rule
>>> from cliplore.machines import machine_of
>>> machine = machine_of(Rule.read(alphabet, 'write a for all; add a'))
>>> [machine.first, machine.rows, machine.ends]
['a', [[(0, 'a'), (0, 'a'), (0, 'a')]], ['']]

>>> from cliplore.signs import Alphabet
>>> alphabet = Alphabet('ba', 'a')
>>> from cliplore.rules import Rule
>>> from cliplore.stocks import Stock
>>> from cliplore.comparing import parting_word
>>> first = Rule.read(alphabet, 'drop vowels')
>>> second = Rule.read(alphabet, 'drop vowels after 1')
>>> parting_word(first, second, Stock.every(alphabet))
'a'

>>> from cliplore.signs import Alphabet
>>> alphabet = Alphabet('ba', 'a')
>>> from cliplore.rules import Rule
>>> from cliplore.stocks import Stock
>>> from cliplore.comparing import compare
>>> first = Rule.read(alphabet, 'drop vowels')
>>> second = Rule.read(alphabet, 'drop vowels after 1')
>>> compare(first, second, Stock.shaped(alphabet, 'CV+'))
('alike', [(0, 0, 0, '', ''), (1, 0, 1, '', ''), (2, 0, 1, '', '')])

>>> from cliplore.signs import Alphabet
>>> alphabet = Alphabet('ba', 'a')
>>> from cliplore.rules import Rule
>>> from cliplore.stocks import Stock
>>> from cliplore.clashing import decide
>>> rule = Rule.read(alphabet, 'drop vowels')
>>> decide(rule, Stock.shaped(alphabet, 'CV?'))
('clash', 'b', 'ba')

>>> from cliplore.signs import Alphabet
>>> alphabet = Alphabet('ba', 'a')
>>> from cliplore.rules import Rule
>>> from cliplore.stocks import Stock
>>> from cliplore.clashing import decide
>>> rule = Rule.read(alphabet, 'drop vowels')
>>> decide(rule, Stock.shaped(alphabet, '(CV)+'))
('apart', [(-1, 1, '', 'b')])

>>> from cliplore.signs import Alphabet
>>> alphabet = Alphabet('ba', 'a')
>>> from cliplore.rules import Rule
>>> from cliplore.stocks import Stock
>>> from cliplore.reading import meanings
>>> rule = Rule.read(alphabet, 'drop vowels')
>>> list(meanings(rule, Stock.shaped(alphabet, 'CV?C'), 'bb'))
['bb', 'bab']

>>> from cliplore.signs import Alphabet
>>> alphabet = Alphabet('ba', 'a')
>>> from cliplore.rules import Rule
>>> from cliplore.stocks import Stock
>>> from cliplore.reading import reach
>>> rule = Rule.read(alphabet, 'drop vowels')
>>> reach(rule, Stock.shaped(alphabet, 'CV?C'), 'bb')
('most', 3)

>>> from cliplore.signs import Alphabet
>>> alphabet = Alphabet('ba', 'a')
>>> from cliplore.stocks import Stock
>>> from cliplore.lots import Lot
>>> from cliplore.books import Book
>>> lot = Lot.made(alphabet, 'drop vowels', 'once all', depth=1)
>>> book = Book(lot, Stock.every(alphabet))
>>> number = book.tell('abba', 'bb')
>>> book.fitting()
['drop vowels']

>>> from cliplore.signs import Alphabet
>>> alphabet = Alphabet('ba', 'a')
>>> from cliplore.stocks import Stock
>>> from cliplore.lots import Lot
>>> from cliplore.books import Book
>>> lot = Lot.made(alphabet, 'drop vowels', 'once all', depth=1)
>>> book = Book(lot, Stock.every(alphabet))
>>> book.tell('ab', 'bb')
raises NoRule(fewest=1)

>>> from cliplore.signs import Alphabet
>>> alphabet = Alphabet('ba', 'a')
>>> from cliplore.stocks import Stock
>>> from cliplore.lots import Lot
>>> from cliplore.books import Book
>>> from cliplore.planning import best_word
>>> lot = Lot.made(alphabet, 'drop vowels', 'once all', depth=1)
>>> book = Book(lot, Stock.every(alphabet))
>>> best_word(book, 'ab', 'abb')
'abb'

>>> from cliplore.signs import Alphabet
>>> alphabet = Alphabet('ba', 'a')
>>> from cliplore.stocks import Stock
>>> from cliplore.lots import Lot
>>> from cliplore.books import Book
>>> lot = Lot.made(alphabet, 'drop vowels', 'once all', depth=1)
>>> book = Book(lot, Stock.every(alphabet))
>>> book.answers('abb')
[('ab', [2]), ('abb', [0]), ('bb', [1])]

>>> from cliplore.signs import Alphabet
>>> alphabet = Alphabet('ba', 'a')
>>> from cliplore.rules import Rule
>>> from cliplore.machines import machine_of
>>> from cliplore.printing import machine_lines
>>> machine_lines(machine_of(Rule.read(alphabet, 'add a')))
['first=', 'place  -           a           b           end', '    0  0/-         0/a         0/b         =a']

>>> from cliplore.signs import Alphabet
>>> alphabet = Alphabet('ba', 'a')
>>> from cliplore.stages import read_stage
>>> read_stage(alphabet, 'drop all after each')
raises BadStage(what='after')

>>> from cliplore.signs import Alphabet
>>> alphabet = Alphabet('ba', 'a')
>>> from cliplore.stocks import Stock
>>> from cliplore.lots import Lot
>>> from cliplore.books import Book
>>> from cliplore.printing import account_lines
>>> lot = Lot.made(alphabet, 'drop vowels', 'once all', depth=1)
>>> book = Book(lot, Stock.every(alphabet), limit=1)
>>> first = book.tell('abba', 'bb')
>>> second = book.tell('aab', 'b')
>>> account_lines(book)
['  0  out            1,2  keep', '  1  fits          none  drop vowels', '  2  out            1,2  once all']
"""


def sessions():
    """The sessions, each as a list of pairs: a line of code, and what it shows or raises, or None."""
    for block in SESSIONS.strip().split("\n\n"):
        steps = []
        for line in block.split("\n"):
            if line.startswith(">>> "):
                steps.append((line[4:], None))
            else:
                steps[-1] = (steps[-1][0], line)
        yield steps


def shown(code, names):
    """What the line of code shows, as in the document."""
    try:
        if isinstance(ast.parse(code).body[0], ast.Expr):
            value = eval(code, names)
            return None if value is None else repr(value)
        exec(code, names)
    except ClipError as error:
        told = ", ".join(f"{name}={value!r}" for name, value in vars(error).items())
        return f"raises {error.__class__.__name__}({told})"
    return None


class ExamplesTest(unittest.TestCase):
    def test_each_example(self):
        for steps in sessions():
            names = {}
            for code, expected in steps:
                with self.subTest(code):
                    self.assertEqual(shown(code, names), expected)

    def test_all_examples_are_here(self):
        found = list(sessions())
        self.assertEqual(len(found), 22)
        self.assertTrue(all(steps[-1][1] is not None for steps in found))


if __name__ == "__main__":
    unittest.main()
