"""Machines, which give texts to words, and the machines of rules (points 29 to 33)."""

from cliplore.errors import BadTable, BadWord, Mixed
from cliplore.signs import copy_of
from cliplore.stocks import Stock
from cliplore.writings import least_writing, nothing_written


class Machine:
    """A table that is kept as it is: texts are written at first, by each step, and when the word ends."""

    def __init__(self, alphabet, first, rows, ends):
        _check_table(alphabet, first, rows, ends)
        self.alphabet = copy_of(alphabet)
        self.first = first
        self.rows = [list(row) for row in rows]
        self.ends = list(ends)

    def __eq__(self, other):
        return (isinstance(other, Machine) and self.alphabet == other.alphabet and self.first == other.first
                and self.rows == other.rows and self.ends == other.ends)

    def __len__(self):
        return len(self.rows)

    def run(self, word):
        """The text of the word, or None if the word is not accepted."""
        if not self.alphabet.is_word(word):
            raise BadWord(word)
        went = self.follow(0, word)
        if went is None or self.ends[went[0]] is None:
            return None
        return self.first + went[1] + self.ends[went[0]]

    def least(self):
        """The least form, as a new machine."""
        return _least(self.alphabet, self.first, self.rows, self.ends)

    def then(self, second):
        """The least form of the machine that gives a word what second writes for the text of this machine."""
        if self.alphabet != second.alphabet:
            raise Mixed()
        first, rows, ends = _chained(self, second)
        return _least(self.alphabet, first, rows, ends)

    def follow(self, place, word):
        """The place that the word leads to from this place, and what its steps write, or None."""
        texts = []
        for sign in word:
            step = self.rows[place][self.alphabet.signs.find(sign)]
            if step is None:
                return None
            place, text = step
            texts.append(text)
        return place, "".join(texts)


def machine_of(rule, stock=None):
    """The least form of the machine that gives each word of the stock its short form."""
    if stock is None:
        stock = Stock.every(rule.alphabet)
    if stock.alphabet != rule.alphabet:
        raise Mixed()
    machine = _copying(stock)
    # Brought to its least form after each stage, so that the tables in between stay small.
    for stage in rule.stages:
        machine = machine.then(_machine_of_stage(stage))
    return machine.least()


def _check_table(alphabet, first, rows, ends):
    if len(rows) == 0 or len(ends) != len(rows) or not alphabet.is_word(first):
        raise BadTable(-1)
    for place, row in enumerate(rows):
        if len(row) != len(alphabet.signs):
            raise BadTable(place)
        for step in row:
            if step is not None and not (0 <= step[0] < len(rows) and alphabet.is_word(step[1])):
                raise BadTable(place)
        if ends[place] is not None and not alphabet.is_word(ends[place]):
            raise BadTable(place)


def _least(alphabet, first, rows, ends):
    """The machine with the least form of this table."""
    first, rows, ends = least_writing(first, rows, ends)
    return Machine(alphabet, first, rows, ends)


def _chained(first, second):
    """The table of the first machine and then the second one: its places are pairs of their places."""
    begun = second.follow(0, first.first)
    if begun is None:
        return nothing_written(len(first.alphabet.signs))
    pairs = [(0, begun[0])]
    numbers = {pairs[0]: 0}
    rows = []
    at = 0
    while at < len(pairs):
        one, two = pairs[at]
        row = []
        for step in first.rows[one]:
            went = None if step is None else second.follow(two, step[1])
            if went is None:
                row.append(None)
            else:
                pair = (step[0], went[0])
                if pair not in numbers:
                    numbers[pair] = len(pairs)
                    pairs.append(pair)
                row.append((numbers[pair], went[1]))
        rows.append(row)
        at += 1
    return second.first + begun[1], rows, [_chained_end(first, second, one, two) for one, two in pairs]


def _chained_end(first, second, one, two):
    if first.ends[one] is None:
        return None
    went = second.follow(two, first.ends[one])
    if went is None or second.ends[went[0]] is None:
        return None
    return went[1] + second.ends[went[0]]


def _copying(stock):
    """The machine that gives each word of the stock the word itself."""
    signs = stock.alphabet.signs
    rows = [[None if step == -1 else (step, sign) for sign, step in zip(signs, row)] for row in stock.rows]
    return Machine(stock.alphabet, "", rows, ["" if good else None for good in stock.goods])


def _machine_of_stage(stage):
    """The machine of one stage: its places are the states of the stage."""
    states = [stage.start()]
    numbers = {states[0]: 0}
    rows = []
    at = 0
    while at < len(states):
        row = []
        for sign in stage.alphabet.signs:
            state, text = stage.step(states[at], sign)
            if state not in numbers:
                numbers[state] = len(states)
                states.append(state)
            row.append((numbers[state], text))
        rows.append(row)
        at += 1
    return Machine(stage.alphabet, "", rows, [stage.end(state) for state in states])
