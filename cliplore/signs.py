"""Alphabets, their words and their sets of signs (points 2 to 5)."""

from cliplore.errors import BadAlphabet, BadStage


def _has_twice(text):
    return len(set(text)) < len(text)


def _in_order(text):
    return "".join(sorted(text))


class Alphabet:
    """Letters, of which some are vowels, and the joint. All strings of signs are ascending."""

    JOINT = "-"
    MOST = 8

    def __init__(self, letters, vowels=""):
        if not self._are_letters(letters):
            raise BadAlphabet("letters")
        if _has_twice(vowels) or not all([vowel in letters for vowel in vowels]):
            raise BadAlphabet("vowels")
        self.letters = _in_order(letters)
        self.vowels = _in_order(vowels)
        self.consonants = "".join([letter for letter in self.letters if letter not in vowels])
        self.signs = self.JOINT + self.letters

    def __eq__(self, other):
        return isinstance(other, Alphabet) and self.letters == other.letters and self.vowels == other.vowels

    def members(self, name):
        """The signs of the set with this name, ascending."""
        named = {
            "all": self.signs,
            "letters": self.letters,
            "vowels": self.vowels,
            "consonants": self.consonants,
            "joints": self.JOINT,
        }
        if name in named:
            return named[name]
        listed = name[1:-1]
        if name != f"[{listed}]" or not self._can_be_listed(listed):
            raise BadStage("set")
        return listed

    def is_word(self, text):
        """Whether each character is a sign."""
        return all([sign in self.signs for sign in text])

    def _are_letters(self, letters):
        if not isinstance(letters, str) or not 1 <= len(letters) <= self.MOST:
            return False
        return not _has_twice(letters) and all(["a" <= letter <= "z" for letter in letters])

    def _can_be_listed(self, signs):
        return signs != "" and self.is_word(signs) and signs == _in_order(signs) and not _has_twice(signs)


def copy_of(alphabet):
    """An equal alphabet, so that a later change of the caller's object does not reach what keeps this one."""
    return Alphabet(alphabet.letters, alphabet.vowels)
