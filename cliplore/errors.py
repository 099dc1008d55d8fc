"""The errors of Cliplore. Each one has its arguments as attributes."""


class ClipError(ValueError):
    """The base class of all errors of Cliplore."""


class BadAlphabet(ClipError):
    """The letters or the vowels make no alphabet; part says which of the two."""

    def __init__(self, part):
        super().__init__(f"these {part} make no alphabet")
        self.part = part


class BadWord(ClipError):
    """A string has a character that is not a sign of the alphabet."""

    def __init__(self, word):
        super().__init__(f"not a word of the alphabet: {word!r}")
        self.word = word


class BadStage(ClipError):
    """A stage is wrong; what says which part of it."""

    def __init__(self, what):
        super().__init__(f"wrong stage: {what}")
        self.what = what


class BadRule(ClipError):
    """A stage of a rule is wrong: its number, counted from 1, and which part of it."""

    def __init__(self, stage, what):
        super().__init__(f"wrong stage {stage} of the rule: {what}")
        self.stage = stage
        self.what = what


class BadShape(ClipError):
    """A character of a shape cannot stand at its place, counted from 0."""

    def __init__(self, place):
        super().__init__(f"wrong shape at index {place}")
        self.place = place


class BadTable(ClipError):
    """A place of a table is wrong, or with -1 the table as a whole."""

    def __init__(self, place):
        super().__init__(f"wrong table at place {place}")
        self.place = place


class Mixed(ClipError):
    """Things with different alphabets are used together."""

    def __init__(self):
        super().__init__("the alphabets differ")


class BadLot(ClipError):
    """A rule or stage cannot stand in a lot; number counts from 1, and 0 means an empty lot."""

    def __init__(self, number):
        super().__init__(f"wrong lot at number {number}")
        self.number = number


class BadLimit(ClipError):
    """A limit or depth is out of its range."""

    def __init__(self, limit):
        super().__init__(f"no such limit: {limit}")
        self.asked = limit


class TooMany(ClipError):
    """There are more rules or classes than allowed; number says how many."""

    def __init__(self, number):
        super().__init__(f"too many: {number}")
        self.number = number


class OutsideStock(ClipError):
    """A string is not a word of the stock."""

    def __init__(self, word):
        super().__init__(f"not in the stock: {word!r}")
        self.word = word


class NoRule(ClipError):
    """No class would be left; fewest is the least number of entries that a class would miss."""

    def __init__(self, fewest):
        super().__init__(f"no rule would be left, each misses at least {fewest}")
        self.fewest = fewest


class NoEntry(ClipError):
    """A book has no entry with this number."""

    def __init__(self, number):
        super().__init__(f"no entry {number}")
        self.number = number


class NoClass(ClipError):
    """A book has no class with this number, or the class is not left."""

    def __init__(self, number):
        super().__init__(f"no class {number}")
        self.number = number


class NoHistory(ClipError):
    """There is no step to take back or to carry out again; way is "undo" or "redo"."""

    def __init__(self, way):
        super().__init__(f"nothing to {way}")
        self.way = way


class BadDeed(ClipError):
    """A tuple is not a deed; index counts from 0."""

    def __init__(self, index):
        super().__init__(f"wrong deed at index {index}")
        self.index = index


class NoPlan(ClipError):
    """None of the words parts these two classes."""

    def __init__(self, one, two):
        super().__init__(f"no word parts the classes {one} and {two}")
        self.one = one
        self.two = two
