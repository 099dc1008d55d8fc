"""What points 24 and 25 say of shapes, written down a second time by means of regular expressions."""

import re

NAMES = {"C": "consonants", "V": "vowels", "L": "letters", "J": "joints", "S": "all"}


def as_expression(alphabet, text):
    """The regular expression for the words that the shape describes."""
    pieces = []
    for char in text:
        if char in "()|?*+":
            pieces.append({"(": "(?:"}.get(char, char))
        else:
            signs = alphabet.members(NAMES[char]) if char in NAMES else char
            pieces.append(f"[{re.escape(signs)}]" if signs else r"[^\s\S]")
    return re.compile("".join(pieces))


def is_shape(alphabet, text):
    """Whether the text has the form of a shape, without the limits of point 24."""
    # Each item becomes "#", first those of one sign and then, from within, those in parentheses.
    atoms = re.escape("".join(NAMES) + alphabet.signs)
    text = re.sub(f"[{atoms}][?*+]?", "#", text.replace("#", "!"))
    before = None
    while text != before:
        before = text
        text = re.sub(r"\(#+(?:\|#+)*\)[?*+]?", "#", text)
    return re.fullmatch(r"#+(?:\|#+)*", text) is not None


def deepest(text):
    depth = most = 0
    for char in text:
        depth += {"(": 1, ")": -1}.get(char, 0)
        most = max(most, depth)
    return most


def can_go_on(alphabet, text):
    """Whether some shape begins with this short text."""
    ends = [atom + ")" * many for atom in ("", alphabet.letters[0]) for many in range(len(text) + 1)]
    return deepest(text) <= 3 and any(is_shape(alphabet, text + end) for end in ends)


def wrong_place(alphabet, text):
    """The place of point 25 for a short text, or None if the text is a shape."""
    for place in range(len(text)):
        if not can_go_on(alphabet, text[:place + 1]):
            return place
    return None if is_shape(alphabet, text) else len(text)


def random_shape(chance, alphabet, atoms, depth=0):
    """A shape with at most so many atoms, at least 1, and how many it has."""
    branches = []
    used = 0
    while not branches or (used < atoms and chance.random() < 0.3):
        branch = ""
        while not branch or (used < atoms and chance.random() < 0.6):
            if depth < 3 and chance.random() < 0.35:
                part, many = random_shape(chance, alphabet, atoms - used, depth + 1)
                branch += f"({part})"
            else:
                branch += chance.choice("CVLJS" + alphabet.signs)
                many = 1
            used += many
            branch += chance.choice(["", "", "?", "*", "+"])
        branches.append(branch)
    return "|".join(branches), used
