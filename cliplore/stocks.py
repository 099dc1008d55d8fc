"""Stocks, which are sets of words, each with its least table (points 20 to 28)."""

from cliplore.errors import BadTable, BadWord, Mixed
from cliplore.shapes import shape_table
from cliplore.signs import copy_of
from cliplore.tables import cut, first_words, merged, paired, useful


class Stock:
    """The set of words whose steps through a table, from place 0, end at a good place."""

    def __init__(self, alphabet, rows, goods):
        _check_rows(alphabet, rows, goods)
        self.alphabet = copy_of(alphabet)
        self.rows, self.goods = _least_table(rows, goods)

    @classmethod
    def every(cls, alphabet):
        """The stock of all words."""
        return cls(alphabet, [[0 for _ in alphabet.signs]], [True])

    @classmethod
    def listed(cls, alphabet, words):
        """The stock of the words of a list."""
        rows = [[-1 for _ in alphabet.signs]]
        goods = [False]
        for word in words:
            if not alphabet.is_word(word):
                raise BadWord(word)
            place = 0
            for sign in word:
                rank = alphabet.signs.find(sign)
                if rows[place][rank] == -1:
                    rows[place][rank] = len(rows)
                    rows.append([-1 for _ in alphabet.signs])
                    goods.append(False)
                place = rows[place][rank]
            goods[place] = True
        return cls(alphabet, rows, goods)

    @classmethod
    def shaped(cls, alphabet, text):
        """The stock of the words that a shape describes."""
        rows, goods = shape_table(alphabet, text)
        return cls(alphabet, rows, goods)

    def __eq__(self, other):
        return (isinstance(other, Stock) and self.alphabet == other.alphabet
                and self.rows == other.rows and self.goods == other.goods)

    def __and__(self, other):
        rows, pairs = _both(self, other)
        return Stock(self.alphabet, rows, [self.is_good(one) and other.is_good(two) for one, two in pairs])

    def __or__(self, other):
        rows, pairs = _both(self, other)
        return Stock(self.alphabet, rows, [self.is_good(one) or other.is_good(two) for one, two in pairs])

    def __sub__(self, other):
        rows, pairs = _both(self, other)
        return Stock(self.alphabet, rows, [self.is_good(one) and not other.is_good(two) for one, two in pairs])

    def __contains__(self, word):
        return self.alphabet.is_word(word) and self.is_good(self.lead(word))

    def __bool__(self):
        return any(self.goods)

    def is_good(self, place):
        """Whether a word that leads to this place, or to -1, belongs to the stock."""
        return place != -1 and self.goods[place]

    def words(self, most):
        """Yields the words with at most this many signs, in shortlex order."""
        signs = self.alphabet.signs
        # For each number of signs, and then for each place, how many words of so many signs go on from there.
        ways = [_ways_to_end(self.goods)]
        for size in range(most + 1):
            begun = [("", 0)] if ways[size][0] > 0 else []
            while len(begun) > 0:
                word, place = begun.pop()
                rest = size - len(word)
                if rest == 0:
                    yield word
                else:
                    # The last one that is put on is the first one that is taken off.
                    for rank in reversed(range(len(signs))):
                        step = self.rows[place][rank]
                        if step != -1 and ways[rest - 1][step] > 0:
                            begun.append((word + signs[rank], step))
            ways.append(_ways_with_one_more(self.rows, ways[size]))

    def count(self, most):
        """How many words have at most this many signs."""
        ways = _ways_to_end(self.goods)
        total = 0
        for _ in range(most + 1):
            total = total + ways[0]
            ways = _ways_with_one_more(self.rows, ways)
        return total

    def first_word(self):
        """The first word in shortlex order, or None."""
        # The places are numbered in the order of the first words that lead to them.
        places = [place for place, good in enumerate(self.goods) if good]
        if len(places) == 0:
            return None
        return first_words(self.rows, self.alphabet.signs)[places[0]]

    def lead(self, word):
        """The place that the word leads to, or -1."""
        if not self.alphabet.is_word(word):
            raise BadWord(word)
        place = 0
        for sign in word:
            place = self.rows[place][self.alphabet.signs.find(sign)]
            if place == -1:
                return -1
        return place


def apart(first, second):
    """The first word, in shortlex order, that belongs to exactly one of two stocks, or None."""
    rows, pairs = _both(first, second)
    for place, (one, two) in enumerate(pairs):
        if first.is_good(one) != second.is_good(two):
            return first_words(rows, first.alphabet.signs)[place]
    return None


def _check_rows(alphabet, rows, goods):
    if len(rows) == 0 or len(goods) != len(rows):
        raise BadTable(-1)
    for place, row in enumerate(rows):
        if len(row) != len(alphabet.signs) or not all([-1 <= step < len(rows) for step in row]):
            raise BadTable(place)


def _least_table(rows, goods):
    """The least table that has the same words."""
    places = useful(rows, goods)
    if len(places) == 0:
        return [[-1 for _ in rows[0]]], [False]
    kept = [bool(goods[place]) for place in places]
    least, picked = merged(cut(rows, places), kept)
    return least, [kept[place] for place in picked]


def _both(first, second):
    """The table that goes through both stocks at once, and its places as pairs."""
    if first.alphabet != second.alphabet:
        raise Mixed()
    return paired(first.rows, second.rows)


def _ways_to_end(goods):
    """For each place how many words without signs go on from there."""
    return [1 if good else 0 for good in goods]


def _ways_with_one_more(rows, ways):
    """The same for words with one sign more than in ways."""
    return [sum([ways[step] for step in row if step != -1]) for row in rows]
