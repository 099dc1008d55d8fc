"""The five stages of rules, and how their written forms are read (points 6 to 14).

The states of all stages are integers, strings or tuples of these, so nothing can change a state.
"""

from cliplore.errors import BadStage, BadWord
from cliplore.signs import Alphabet, copy_of

_MOST_AFTER = 3


class Stage:
    """The base class of the stages. The classes below it define text, start, step and end."""

    def __init__(self, alphabet):
        self.alphabet = copy_of(alphabet)

    def __call__(self, word):
        if not self.alphabet.is_word(word):
            raise BadWord(word)
        state = self.start()
        pieces = []
        for sign in word:
            state, piece = self.step(state, sign)
            pieces.append(piece)
        pieces.append(self.end(state))
        return "".join(pieces)


class Drop(Stage):
    """Removes the signs of a set whose number is greater than after.

    The state is how many signs have been numbered. It stops at after, since from there on
    all signs are treated alike.
    """

    def __init__(self, alphabet, name, *, after=0, each=False):
        super().__init__(alphabet)
        self.name = name
        self.taken = self.alphabet.members(name)
        if not 0 <= after <= _MOST_AFTER:
            raise BadStage("after")
        self.after = after
        self.each = each

    def text(self):
        """The written form."""
        after = f" after {self.after}" if self.after > 0 else ""
        each = " each" if self.each else ""
        return f"drop {self.name}{after}{each}"

    def start(self):
        """The state before the first sign."""
        return 0

    def step(self, state, sign):
        """The state after the sign, and the text written."""
        if self.each and sign == Alphabet.JOINT:
            return 0, sign
        if state < self.after:
            return state + 1, sign
        written = "" if sign in self.taken else sign
        return state, written

    def end(self, state):
        """The text written when the word ends."""
        return ""


class LastDrop(Drop):
    """Does the same as Drop, but some signs stay that are last.

    The state is a pair: the state of Drop, and the sign that Drop has just removed, or "". That
    sign is still written if the word ends here, or if a joint follows that begins new numbers.
    """

    def __init__(self, alphabet, name, *, after=0, each=False):
        super().__init__(alphabet, name, after=after, each=each)

    def text(self):
        """The written form."""
        return super().text() + " but last"

    def start(self):
        """The state before the first sign."""
        return super().start(), ""

    def step(self, state, sign):
        """The state after the sign, and the text written."""
        number, held = state
        number, written = super().step(number, sign)
        if written == "":
            return (number, sign), ""
        if self.each and sign == Alphabet.JOINT:
            return (number, ""), held + written
        return (number, ""), written

    def end(self, state):
        """The text written when the word ends."""
        number, held = state
        return super().end(number) + held


class Write(Stage):
    """Replaces each sign of a set by one sign. The state never changes."""

    def __init__(self, alphabet, sign, name):
        super().__init__(alphabet)
        _check_sign(self.alphabet, sign)
        self.sign = sign
        self.name = name
        self.taken = self.alphabet.members(name)

    def text(self):
        """The written form."""
        return f"write {self.sign} for {self.name}"

    def start(self):
        """The state before the first sign."""
        return 0

    def step(self, state, sign):
        """The state after the sign, and the text written."""
        written = self.sign if sign in self.taken else sign
        return state, written

    def end(self, state):
        """The text written when the word ends."""
        return ""


class Once(Stage):
    """Removes the signs of a set that repeat the sign before them.

    The state is the sign before, whether it was removed or not, or "" at the beginning.
    """

    def __init__(self, alphabet, name):
        super().__init__(alphabet)
        self.name = name
        self.taken = self.alphabet.members(name)

    def text(self):
        """The written form."""
        return f"once {self.name}"

    def start(self):
        """The state before the first sign."""
        return ""

    def step(self, state, sign):
        """The state after the sign, and the text written."""
        written = "" if sign == state and sign in self.taken else sign
        return sign, written

    def end(self, state):
        """The text written when the word ends."""
        return ""


class Add(Stage):
    """Appends one sign to the word. The state never changes."""

    def __init__(self, alphabet, sign):
        super().__init__(alphabet)
        _check_sign(self.alphabet, sign)
        self.sign = sign

    def text(self):
        """The written form."""
        return f"add {self.sign}"

    def start(self):
        """The state before the first sign."""
        return 0

    def step(self, state, sign):
        """The state after the sign, and the text written."""
        return state, sign

    def end(self, state):
        """The text written when the word ends."""
        return self.sign


def _check_sign(alphabet, sign):
    # "in" alone would also find the empty text and texts of several signs.
    if len(sign) != 1 or sign not in alphabet.signs:
        raise BadStage("sign")


def read_stage(alphabet, text):
    """The stage with this written form."""
    # Not split(): an empty word counts as a word, so two spaces side by side must show.
    words = text.split(" ")
    verb = words[0]
    parts = words[1:]
    if verb == "drop" and len(parts) > 0:
        return _read_drop(alphabet, parts[0], parts[1:])
    if verb == "write" and len(parts) == 3 and parts[1] == "for":
        return Write(alphabet, parts[0], parts[2])
    if verb == "once" and len(parts) == 1:
        return Once(alphabet, parts[0])
    if verb == "add" and len(parts) == 1:
        return Add(alphabet, parts[0])
    raise BadStage("text")


def _read_drop(alphabet, name, parts):
    after = 0
    if len(parts) > 1 and parts[0] == "after":
        after = _read_after(parts[1])
        parts = parts[2:]
    each = len(parts) > 0 and parts[0] == "each"
    if each:
        parts = parts[1:]
    if parts == []:
        return Drop(alphabet, name, after=after, each=each)
    if parts == ["but", "last"]:
        return LastDrop(alphabet, name, after=after, each=each)
    raise BadStage("text")


def _read_after(word):
    # -1 stands for a wrong word: the classes refuse it, but only after the set.
    if word in ("1", "2", "3"):
        return int(word)
    return -1
