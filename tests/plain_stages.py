"""What points 6 to 10 say of whole words, written down a second time and in another way."""

import itertools

from cliplore.stages import Add, Drop, LastDrop, Once, Write

NAMES = ("all", "letters", "vowels", "consonants", "joints", "[-]", "[a]", "[b]", "[-a]", "[-b]", "[ab]", "[-ab]")


def numbers_of(word, each):
    found = []
    number = 0
    for sign in word:
        number = 0 if each and sign == "-" else number + 1
        found.append(number)
    return found


def dropped(word, signs, after, each, last):
    kept = []
    for index, (sign, number) in enumerate(zip(word, numbers_of(word, each))):
        stays = last and (index + 1 == len(word) or (each and word[index + 1] == "-"))
        if stays or sign not in signs or number <= after:
            kept.append(sign)
    return "".join(kept)


def written(word, sign, signs):
    return "".join(sign if old in signs else old for old in word)


def once(word, signs):
    return "".join(sign for index, sign in enumerate(word)
                   if not (index > 0 and word[index - 1] == sign and sign in signs))


def words(signs, most):
    for size in range(most + 1):
        for word in itertools.product(signs, repeat=size):
            yield "".join(word)


def every_stage(alphabet):
    """Each stage that there is, with what a whole word becomes by points 6 to 10."""
    for name in NAMES:
        signs = alphabet.members(name)
        for after, each in itertools.product(range(4), (False, True)):
            yield (Drop(alphabet, name, after=after, each=each),
                   lambda word, s=signs, a=after, e=each: dropped(word, s, a, e, False))
            yield (LastDrop(alphabet, name, after=after, each=each),
                   lambda word, s=signs, a=after, e=each: dropped(word, s, a, e, True))
        for sign in alphabet.signs:
            yield Write(alphabet, sign, name), lambda word, x=sign, s=signs: written(word, x, s)
        yield Once(alphabet, name), lambda word, s=signs: once(word, s)
    for sign in alphabet.signs:
        yield Add(alphabet, sign), lambda word, x=sign: word + x
