"""What points 47 to 58 say of books, written down a second time and in a plainer way."""

import copy

from cliplore.errors import (BadDeed, BadLimit, BadWord, ClipError, NoClass, NoEntry, NoHistory, NoRule,
                             OutsideStock)
from tests.plain_rows import shortlex

LENGTHS = {"tell": 3, "withdraw": 2, "limit": 2}


def outcome(call):
    """What the call returns, or its error."""
    try:
        return "returns", call()
    except ClipError as error:
        return error.__class__, vars(error)


class PlainBook:
    """A book that reckons everything anew, from the rules and from short words."""

    def __init__(self, lot, stock, limit, short_words):
        self.rules = lot.rules
        self.stock = stock
        self.words = [word for word in short_words if word in stock]
        self.classes = lot.classes_on(stock)
        self.state = {"entries": [], "limit": limit, "next": 1}
        self.undone, self.past = [], []

    def form(self, number, word):
        return self.rules[self.classes[number][0]](word)

    def missed(self, number):
        return [entry for entry, word, short in self.state["entries"] if self.form(number, word) != short]

    def left(self):
        return [number for number in range(len(self.classes)) if len(self.missed(number)) <= self.state["limit"]]

    def check_left(self):
        if not self.left():
            raise NoRule(min(len(self.missed(number)) for number in range(len(self.classes))))

    def check_word(self, word):
        if word not in self.stock:
            raise OutsideStock(word)

    def carry_out(self, deed):
        if deed[0] == "tell":
            self.check_word(deed[1])
            if not self.stock.alphabet.is_word(deed[2]):
                raise BadWord(deed[2])
            number = self.state["next"]
            self.state["entries"].append((number, deed[1], deed[2]))
            self.state["next"] += 1
            self.check_left()
            return number
        if deed[0] == "withdraw":
            if deed[1] not in [entry[0] for entry in self.state["entries"]]:
                raise NoEntry(deed[1])
            self.state["entries"] = [entry for entry in self.state["entries"] if entry[0] != deed[1]]
        else:
            if deed[1] < 0:
                raise BadLimit(deed[1])
            self.state["limit"] = deed[1]
            self.check_left()
        return None

    def attempt(self, deeds):
        for index, deed in enumerate(deeds):
            if not deed or LENGTHS.get(deed[0]) != len(deed):
                raise BadDeed(index)
        before = copy.deepcopy(self.state)
        try:
            told = [self.carry_out(deed) for deed in deeds]
        except ClipError:
            self.state = before
            raise
        if deeds:
            self.past.append(before)
            self.undone = []
        return told

    def tell(self, word, short):
        return self.attempt([("tell", word, short)])[0]

    def withdraw(self, number):
        return self.attempt([("withdraw", number)])[0]

    def change_limit(self, limit):
        return self.attempt([("limit", limit)])[0]

    def undo(self):
        if not self.past:
            raise NoHistory("undo")
        self.undone.append(self.state)
        self.state = self.past.pop()

    def redo(self):
        if not self.undone:
            raise NoHistory("redo")
        self.past.append(self.state)
        self.state = self.undone.pop()

    def misses(self, number):
        if number not in range(len(self.classes)):
            raise NoClass(number)
        return self.missed(number)

    def account(self):
        limit, left = self.state["limit"], self.left()
        return [(number, "fits", self.missed(number)) if number in left
                else (number, "out", self.missed(number)[:limit + 1]) for number in range(len(self.classes))]

    def fitting(self):
        left = self.left()
        return [str(rule) for number, rule in enumerate(self.rules)
                if any(number in self.classes[index] for index in left)]

    def answers(self, word):
        self.check_word(word)
        found = {}
        for number in self.left():
            found.setdefault(self.form(number, word), []).append(number)
        return sorted(found.items())

    def sure(self, word):
        answers = self.answers(word)
        return answers[0][0] if len(answers) == 1 else None

    def unsure(self):
        """The first of the short words that has no sure short form, or None."""
        return next((word for word in self.words if self.sure(word) is None), None)

    def means(self, short, most=6):
        if not self.stock.alphabet.is_word(short):
            raise BadWord(short)
        left = self.left()
        hits = {word: sum(self.form(number, word) == short for number in left) for word in self.words
                if len(word) <= most}
        words = sorted(hits, key=shortlex)
        return [word for word in words if hits[word] == len(left)], [word for word in words
                                                                     if 0 < hits[word] < len(left)]

    def verdict(self, one, two):
        self.check_word(one)
        self.check_word(two)
        same = {self.form(number, one) == self.form(number, two) for number in self.left()}
        return "sometimes" if len(same) == 2 else "always" if True in same else "never"

    def everything(self):
        """What a book says of its entries and classes."""
        return [self.state["entries"], len(self.state["entries"]), self.state["limit"], self.classes, self.left(),
                len(self.left()), self.fitting(), [self.missed(number) for number in range(len(self.classes))],
                self.account(), (len(self.past), len(self.undone))]


def everything(book):
    """What the book says of its entries and classes, in the same order as PlainBook.everything."""
    classes = book.all_classes()
    return [book.entries(), len(book), book.limit, classes, book.left(), book.many, book.fitting(),
            [book.misses(number) for number in range(len(classes))], book.account(), book.steps()]
