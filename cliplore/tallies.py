"""Tallies: what a book knows at one moment. A tally never changes, so a book keeps its history as tallies."""

from cliplore.errors import NoEntry, NoRule


class Tally:
    """The entries, the limit, the number of the next entry, and for each class the entries that it misses."""

    def __init__(self, told, allowed, coming, missed):
        kept = [number for number, numbers in enumerate(missed) if len(numbers) <= allowed]
        if len(kept) == 0:
            raise NoRule(min([len(numbers) for numbers in missed]))
        self.told = told
        self.allowed = allowed
        self.coming = coming
        self.missed = missed
        # The classes that are left.
        self.kept = kept

    def with_entry(self, word, short, forms):
        """The tally with one entry more. The forms are what each class gives to the word."""
        missed = [numbers if form == short else [*numbers, self.coming] for numbers, form in zip(self.missed, forms)]
        return Tally([*self.told, (self.coming, word, short)], self.allowed, self.coming + 1, missed)

    def without_entry(self, number):
        """The tally without the entry of this number."""
        told = [entry for entry in self.told if entry[0] != number]
        if len(told) == len(self.told):
            raise NoEntry(number)
        missed = [[other for other in numbers if other != number] for numbers in self.missed]
        return Tally(told, self.allowed, self.coming, missed)

    def with_limit(self, limit):
        """The tally with this limit."""
        return Tally(self.told, limit, self.coming, self.missed)
