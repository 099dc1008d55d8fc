"""Lots: lists of different rules with one alphabet, and their classes on a stock (points 44 to 46)."""

from cliplore.errors import BadLimit, BadLot, TooMany
from cliplore.machines import machine_of
from cliplore.rules import Rule, read_piece
from cliplore.signs import copy_of

_GREATEST_DEPTH = 3


class Lot:
    """A list of different rules with one alphabet."""

    MOST = 200

    def __init__(self, rules):
        if len(rules) == 0:
            raise BadLot(0)
        texts = {}
        for number, rule in enumerate(rules, start=1):
            # Rules with one alphabet are equal if their written forms are the same.
            if rule.alphabet != rules[0].alphabet or rule.text() in texts:
                raise BadLot(number)
            texts[rule.text()] = True
        self.alphabet = copy_of(rules[0].alphabet)
        self.rules = list(rules)

    @classmethod
    def made(cls, alphabet, *stages, depth=2):
        """The lot of all rules of at most depth of the stages with these written forms."""
        if not 0 <= depth <= _GREATEST_DEPTH:
            raise BadLimit(depth)
        pieces = [read_piece(alphabet, number, text) for number, text in enumerate(stages, start=1)]
        for number, text in enumerate(stages, start=1):
            if text in stages[:number - 1]:
                raise BadLot(number)
        number = _how_many_rules(len(pieces), depth)
        if number > cls.MOST:
            raise TooMany(number)
        return cls([Rule(alphabet, *chosen) for chosen in _choices(pieces, depth)])

    def __len__(self):
        return len(self.rules)

    def texts(self):
        """The written forms of the rules, in order."""
        return [rule.text() for rule in self.rules]

    def classes_on(self, stock):
        """The numbers of the rules in lists, of which each has the rules that agree on the stock."""
        return self.sorted_on(stock)[0]

    def sorted_on(self, stock):
        """The classes on the stock, and for each of them the machine that its rules have there."""
        classes = []
        machines = []
        numbers = {}
        for number, rule in enumerate(self.rules):
            machine = machine_of(rule, stock)
            key = (machine.first, tuple([tuple(row) for row in machine.rows]), tuple(machine.ends))
            if key not in numbers:
                numbers[key] = len(classes)
                classes.append([])
                machines.append(machine)
            classes[numbers[key]].append(number)
        return classes, machines


def _how_many_rules(pieces, depth):
    """How many rules of at most depth stages there are, of so many stages."""
    total = 0
    power = 1
    for _ in range(depth + 1):
        total = total + power
        power = power * pieces
    return total


def _choices(pieces, depth):
    """The lists of at most depth of these pieces: short lists first, then by the first piece, and so on."""
    longest = [[]]
    choices = [[]]
    for _ in range(depth):
        longest = [[*chosen, piece] for chosen in longest for piece in pieces]
        choices.extend(longest)
    return choices
