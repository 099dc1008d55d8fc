"""Shapes: how they are read, and the table of the words that they describe (points 24 and 25).

The atoms of a shape that describe one sign are numbered from 1. A set of atoms is an integer: atom k is in the
set if bit k is set. Atom 0 stands for what is before the first sign.
"""

from cliplore.errors import BadShape

_NAMES = {"C": "consonants", "V": "vowels", "L": "letters", "J": "joints", "S": "all"}
_MARKS = "?*+"
_MOST_ATOMS = 10
_DEEPEST = 3

_NOTHING = 0
_ATOM = 1
_MARKED = 2


def check_shape(alphabet, text):
    """Raises BadShape for the first character that cannot stand at its place."""
    depth = 0
    atoms = 0
    # What the branch ends with so far: a mark stands behind an atom only, the end of a branch not behind nothing.
    last = _NOTHING
    for place, sign in enumerate(text):
        if sign == "(":
            stands = depth < _DEEPEST
            depth += 1
            last = _NOTHING
        elif sign == ")":
            stands = depth > 0 and last != _NOTHING
            depth -= 1
            last = _ATOM
        elif sign == "|":
            stands = last != _NOTHING
            last = _NOTHING
        elif sign in _MARKS:
            stands = last == _ATOM
            last = _MARKED
        else:
            stands = atoms < _MOST_ATOMS and (sign in _NAMES or sign in alphabet.signs)
            atoms += 1
            last = _ATOM
        if not stands:
            raise BadShape(place)
    if depth > 0 or last == _NOTHING:
        raise BadShape(len(text))


class ShapeReader:
    """Reads a shape that check_shape lets pass, and notes which atoms may follow which.

    A part of the shape is read into a tuple: whether the part describes the empty word, the set of the atoms
    that may be its first one, and the set of those that may be its last one.
    """

    def __init__(self, alphabet, shape):
        self.alphabet = alphabet
        self.shape = shape
        self.at = 0
        # For each atom the signs that it describes, and the set of the atoms that may follow it.
        self.described = [""]
        self.followers = [0]
        self.empty, first, self.lasts = self.branches()
        self.followers[0] = first

    def branches(self):
        """Reads branches, up to a closing parenthesis or the end."""
        empty, first, last = self.branch()
        while self._coming() == "|":
            self.at += 1
            more_empty, more_first, more_last = self.branch()
            empty = empty or more_empty
            first = first | more_first
            last = last | more_last
        return empty, first, last

    def branch(self):
        """Reads items side by side."""
        empty, first, last = self.item()
        while self._coming() not in ("", "|", ")"):
            next_empty, next_first, next_last = self.item()
            self._let_follow(last, next_first)
            first = first | (next_first if empty else 0)
            last = next_last | (last if next_empty else 0)
            empty = empty and next_empty
        return empty, first, last

    def item(self):
        """Reads an atom and the mark behind it, if there is one."""
        empty, first, last = self.atom()
        mark = self._coming()
        if mark == "" or mark not in _MARKS:
            return empty, first, last
        self.at += 1
        if mark != "?":
            self._let_follow(last, first)
        return empty or mark != "+", first, last

    def atom(self):
        """Reads an atom, which may be a shape in parentheses."""
        sign = self._coming()
        self.at += 1
        if sign == "(":
            part = self.branches()
            self.at += 1
            return part
        signs = self.alphabet.members(_NAMES[sign]) if sign in _NAMES else sign
        only = 1 << len(self.described)
        self.described.append(signs)
        self.followers.append(0)
        return False, only, only

    def _coming(self):
        return self.shape[self.at:self.at + 1]

    def _let_follow(self, last, first):
        for atom in range(len(self.followers)):
            if (last >> atom) & 1 == 1:
                self.followers[atom] = self.followers[atom] | first


def shape_table(alphabet, text):
    """The rows and goods of a table for the words that the shape describes."""
    check_shape(alphabet, text)
    reader = ShapeReader(alphabet, text)
    takers = [_takers(reader.described, sign) for sign in alphabet.signs]
    good_atoms = reader.lasts | (1 if reader.empty else 0)
    # A place is the set of the atoms that may have described the sign that was read last.
    places = [1]
    numbers = {1: 0, 0: -1}
    rows = []
    at = 0
    while at < len(places):
        coming = _followers(reader.followers, places[at])
        row = []
        for taking in takers:
            place = coming & taking
            if place not in numbers:
                numbers[place] = len(places)
                places.append(place)
            row.append(numbers[place])
        rows.append(row)
        at += 1
    return rows, [(place & good_atoms) != 0 for place in places]


def _takers(described, sign):
    """The set of the atoms that describe the sign."""
    takers = 0
    for atom, signs in enumerate(described):
        if sign in signs:
            takers = takers | (1 << atom)
    return takers


def _followers(followers, atoms):
    """The set of the atoms that may follow one of these."""
    found = 0
    for atom, after in enumerate(followers):
        if (atoms >> atom) & 1 == 1:
            found = found | after
    return found
