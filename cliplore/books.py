"""Books, which keep the seen pairs for a lot and a stock, and answer questions about them (points 47 to 58)."""

from cliplore.clashing import first_clash
from cliplore.comparing import first_parting
from cliplore.errors import BadDeed, BadLimit, BadWord, Mixed, NoClass, NoHistory, OutsideStock
from cliplore.reading import words_meant
from cliplore.tallies import Tally

# The deeds: their first items and their lengths.
_DEEDS = (("tell", 3), ("withdraw", 2), ("limit", 2))


class Book:
    """Entries, which may be wrong as often as the limit says, and the classes that are left by them.

    Each step replaces the present tally, and the tallies before and behind it are kept.
    """

    def __init__(self, lot, stock, *, limit=0):
        if lot.alphabet != stock.alphabet:
            raise Mixed()
        _check_limit(limit)
        self.lot = lot
        self.stock = stock
        # For each class the numbers of its rules, and the machine of its rules on the stock.
        self._groups, self._machines = lot.sorted_on(stock)
        self._now = Tally([], limit, 1, [[] for _ in self._groups])
        self._past = []
        self._undone = []

    def __len__(self):
        return len(self._now.told)

    @property
    def limit(self):
        """How many entries a class that is left may miss."""
        return self._now.allowed

    @limit.setter
    def limit(self, value):
        self.change_limit(value)

    @property
    def many(self):
        """How many classes are left."""
        return len(self._now.kept)

    def tell(self, word, short):
        """Adds an entry, and returns its number."""
        return self.attempt([("tell", word, short)])[0]

    def withdraw(self, number):
        """Removes an entry."""
        self.attempt([("withdraw", number)])

    def change_limit(self, limit):
        """Sets the limit."""
        self.attempt([("limit", limit)])

    def attempt(self, deeds):
        """Carries out all deeds in order as one step, or none. Returns the entry numbers of those that tell."""
        for index, deed in enumerate(deeds):
            if len(deed) == 0 or (deed[0], len(deed)) not in _DEEDS:
                raise BadDeed(index)
        tally = self._now
        numbers = []
        for deed in deeds:
            numbers.append(tally.coming if deed[0] == "tell" else None)
            tally = self._behind(tally, deed)
        if len(deeds) > 0:
            self._past.append(self._now)
            self._now = tally
            self._undone = []
        return numbers

    def undo(self):
        """Takes back the latest step that is in force."""
        if len(self._past) == 0:
            raise NoHistory("undo")
        self._undone.append(self._now)
        self._now = self._past.pop()

    def redo(self):
        """Carries out again the step that was taken back last."""
        if len(self._undone) == 0:
            raise NoHistory("redo")
        self._past.append(self._now)
        self._now = self._undone.pop()

    def steps(self):
        """How many steps can be undone, and how many can be redone."""
        return len(self._past), len(self._undone)

    def entries(self):
        """The entries as tuples (number, word, short), ascending."""
        return list(self._now.told)

    def all_classes(self):
        """The classes, as lists of rule numbers."""
        return [list(numbers) for numbers in self._groups]

    def left(self):
        """The numbers of the classes that are left, ascending."""
        return list(self._now.kept)

    def fitting(self):
        """The written forms of all rules whose class is left, in the order of the lot."""
        rules = sorted([rule for number in self._now.kept for rule in self._groups[number]])
        return [self.lot.rules[rule].text() for rule in rules]

    def misses(self, number):
        """The numbers of the entries that the class misses, ascending."""
        self._check_class(number)
        return list(self._now.missed[number])

    def account(self):
        """For each class its number, "fits" or "out", and the entries that show it, in order."""
        rows = []
        for number, missed in enumerate(self._now.missed):
            if len(missed) <= self._now.allowed:
                rows.append((number, "fits", list(missed)))
            else:
                rows.append((number, "out", missed[:self._now.allowed + 1]))
        return rows

    def answers(self, word):
        """The short forms that the classes that are left give to the word, each with the list of these classes."""
        self._check_word(word)
        groups = {}
        for number in self._now.kept:
            short = self._machines[number].run(word)
            if short not in groups:
                groups[short] = []
            groups[short].append(number)
        return [(short, groups[short]) for short in sorted(list(groups))]

    def sure(self, word):
        """The short form that all classes that are left give to the word, or None if they do not agree."""
        answers = self.answers(word)
        return answers[0][0] if len(answers) == 1 else None

    def unsure(self):
        """The first word of the stock, in shortlex order, that has no sure short form, or None."""
        first, *others = [self._machines[number] for number in self._now.kept]
        words = [first_parting(first, other) for other in others]
        return min(words, key=lambda word: (len(word), word), default=None)

    def means(self, short, *, most=6):
        """The words of at most this many signs that have this short form under all, and only under some classes.

        Only the classes that are left count.
        """
        kept = self._now.kept
        counts = {}
        for number in kept:
            meant = words_meant(self._machines[number], short)
            for word in meant.words(most):
                counts[word] = counts.get(word, 0) + 1
        words = sorted(list(counts), key=lambda word: (len(word), word))
        always = [word for word in words if counts[word] == len(kept)]
        return always, [word for word in words if counts[word] < len(kept)]

    def verdict(self, one, two):
        """Whether two words have the same short form "always", "never" or "sometimes" under the classes left."""
        self._check_word(one)
        self._check_word(two)
        machines = [self._machines[number] for number in self._now.kept]
        same = [machine.run(one) == machine.run(two) for machine in machines]
        if all(same):
            return "always"
        return "sometimes" if any(same) else "never"

    def parted(self, one, two):
        """The first word of the stock, in shortlex order, to which two classes give different short forms, or None."""
        self._check_class(one)
        self._check_class(two)
        return first_parting(self._machines[one], self._machines[two])

    def clashes(self):
        """For each class that is left its number, and two words that clash under it, or None."""
        return [(number, first_clash(self._machines[number])) for number in self._now.kept]

    def twin(self):
        """A book with the same lot, stock, entries, limit and steps."""
        other = Book(self.lot, self.stock)
        other._now = self._now
        other._past = list(self._past)
        other._undone = list(self._undone)
        return other

    def _behind(self, tally, deed):
        """The tally behind a deed."""
        if deed[0] == "withdraw":
            return tally.without_entry(deed[1])
        if deed[0] == "limit":
            _check_limit(deed[1])
            return tally.with_limit(deed[1])
        word, short = deed[1:]
        self._check_word(word)
        if not self.stock.alphabet.is_word(short):
            raise BadWord(short)
        return tally.with_entry(word, short, [machine.run(word) for machine in self._machines])

    def _check_word(self, word):
        if word not in self.stock:
            raise OutsideStock(word)

    def _check_class(self, number):
        if not 0 <= number < len(self._groups):
            raise NoClass(number)


def _check_limit(limit):
    if limit < 0:
        raise BadLimit(limit)
