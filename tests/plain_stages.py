"""What points 6 to 10 say of whole words, written down a second time and in another way."""

import itertools


def numbers_of(word, each):
    found = []
    number = 0
    for sign in word:
        number = 0 if each and sign == "-" else number + 1
        found.append(number)
    return found


def dropped(word, signs, after, each, last):
    kept = []
    for index, (sign, number) in enumerate(zip(word, numbers_of(word, each))):
        stays = last and (index + 1 == len(word) or (each and word[index + 1] == "-"))
        if stays or sign not in signs or number <= after:
            kept.append(sign)
    return "".join(kept)


def written(word, sign, signs):
    return "".join(sign if old in signs else old for old in word)


def once(word, signs):
    return "".join(sign for index, sign in enumerate(word)
                   if not (index > 0 and word[index - 1] == sign and sign in signs))


def words(signs, most):
    for size in range(most + 1):
        for word in itertools.product(signs, repeat=size):
            yield "".join(word)
