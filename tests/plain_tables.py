"""What points 20, 21, 29 and 31 say of tables, written down a second time and in a plainer way."""

import itertools

from tests import plain_stages

def led(rows, signs, word):
    """The place that the word leads to, or -1."""
    place = 0
    for sign in word:
        place = rows[place][signs.index(sign)] if place != -1 else -1
    return place


def accepted(rows, goods, signs, word):
    place = led(rows, signs, word)
    return place != -1 and goods[place]


def enough(rows):
    """A length of words that tells places apart, for small tables and for lists of words of 6 signs."""
    return min(len(rows) + 3, 6)


def check_least(test, stock):
    """Checks every condition of point 21 by trying words."""
    signs, rows, goods = stock.alphabet.signs, stock.rows, stock.goods
    test.assertEqual(len(rows), len(goods))
    for row, good in zip(rows, goods):
        test.assertEqual(len(row), len(signs))
        test.assertIn(good, (True, False))
        test.assertIs(good.__class__, bool)
        for step in row:
            test.assertTrue(step == -1 or 0 <= step < len(rows))
    if not any(goods):
        test.assertEqual((rows, goods), ([[-1] * len(signs)], [False]))
        return
    short = list(plain_stages.words(signs, enough(rows)))
    firsts = []
    for word in short:
        place = led(rows, signs, word)
        if place != -1 and place not in firsts:
            firsts.append(place)
    test.assertEqual(firsts, list(range(len(rows))))
    # What is accepted from each place.
    continued = []
    for place in range(len(rows)):
        turned = [rows[place], *rows]
        shifted = [[step if step == -1 else step + 1 for step in row] for row in turned]
        continued.append([accepted(shifted, [goods[place], *goods], signs, word) for word in short])
    for found in continued:
        test.assertTrue(any(found))
    for one, two in itertools.combinations(continued, 2):
        test.assertNotEqual(one, two)


def random_table(chance, most):
    many = chance.randint(1, most)
    rows = [[chance.choice([-1, *range(many)]) for _ in range(3)] for _ in range(many)]
    return rows, [chance.random() < 0.4 for _ in range(many)]


def spoiled(chance, rows, goods):
    """Another table for the same words: places twice, places of no use, and another order of the places."""
    many = len(rows)
    old = [*range(many), *[chance.randrange(many) for _ in range(3)]]
    copies = [[new for new, place in enumerate(old) if place == wanted] for wanted in range(many)]
    dead = len(old)
    rows = [[dead if step == -1 and chance.random() < 0.5 else -1 if step == -1 else chance.choice(copies[step])
             for step in rows[place]] for place in old]
    goods = [goods[place] for place in old]
    # Two places that lead to nothing good, and one that no word reaches.
    rows += [[dead, dead + 1, -1], [-1, dead, dead], [0, dead + 2, chance.randrange(many)]]
    goods += [False, False, True]
    order = [0, *chance.sample(range(1, len(rows)), len(rows) - 1)]
    numbers = {place: number for number, place in enumerate(order)}
    return [[numbers.get(step, -1) for step in rows[place]] for place in order], [goods[place] for place in order]


def written(first, rows, ends, signs, word):
    """The text of the word by point 29, or None."""
    place, text = 0, first
    for sign in word:
        step = rows[place][signs.index(sign)]
        if step is None:
            return None
        place, text = step[0], text + step[1]
    return None if ends[place] is None else text + ends[place]


def common_beginning(texts):
    size = 0
    while all(len(text) > size and text[size] == texts[0][size] for text in texts):
        size += 1
    return texts[0][:size]


def check_least_form(test, machine):
    """Checks every condition of point 31 by trying words."""
    signs, rows, ends = machine.alphabet.signs, machine.rows, machine.ends
    if all(end is None for end in ends):
        test.assertEqual((machine.first, rows, ends), ("", [[None] * len(signs)], [None]))
        return
    steps = [[-1 if step is None else step[0] for step in row] for row in rows]
    short = list(plain_stages.words(signs, enough(rows)))
    firsts = []
    for word in short:
        place = led(steps, signs, word)
        if place != -1 and place not in firsts:
            firsts.append(place)
    test.assertEqual(firsts, list(range(len(rows))))
    assignments = []
    for place in range(len(rows)):
        shifted = [[step and (step[0] + 1, step[1]) for step in row] for row in [rows[place], *rows]]
        texts = [written("", shifted, [ends[place], *ends], signs, word) for word in short]
        accepted_texts = [text for text in texts if text is not None]
        test.assertNotEqual(accepted_texts, [])
        test.assertEqual(common_beginning(accepted_texts), "")
        assignments.append(texts)
    for one, two in itertools.combinations(assignments, 2):
        test.assertNotEqual(one, two)


def random_machine(chance, most):
    """The first text, the rows and the ends of a machine over the signs -ab."""
    many = chance.randint(1, most)
    texts = ["", "", "", "a", "b", "-", "aa", "ab", "aab"]
    rows = [[None if chance.random() < 0.3 else (chance.randrange(many), chance.choice(texts)) for _ in range(3)]
            for _ in range(many)]
    return chance.choice(texts), rows, [None if chance.random() < 0.5 else chance.choice(texts) for _ in range(many)]


def late(first, rows, ends, size):
    """Another table with the same texts, which always holds back the last so many signs."""
    places = [(0, first[max(0, len(first) - size):])]
    found_rows = []
    for place, held in places:
        row = []
        for step in rows[place]:
            if step is None:
                row.append(None)
                continue
            text = held + step[1]
            cut = max(0, len(text) - size)
            after = (step[0], text[cut:])
            if after not in places:
                places.append(after)
            row.append((places.index(after), text[:cut]))
        found_rows.append(row)
    found_ends = [None if ends[place] is None else held + ends[place] for place, held in places]
    return first[:max(0, len(first) - size)], found_rows, found_ends


def spoiled_machine(chance, first, rows, ends):
    """Another table with the same texts: places twice, places of no use, and another order of the places."""
    many = len(rows)
    old = [*range(many), *[chance.randrange(many) for _ in range(3)]]
    copies = [[new for new, place in enumerate(old) if place == wanted] for wanted in range(many)]
    dead = len(old)
    rows = [[(chance.choice(copies[step[0]]), step[1]) if step else (dead, "b") if chance.random() < 0.5 else None
             for step in rows[place]] for place in old]
    ends = [ends[place] for place in old]
    rows += [[(dead, "a"), (dead + 1, ""), None], [None, (dead, "-"), None], [(0, "a"), None, (dead + 2, "")]]
    ends += [None, None, "a"]
    order = [0, *chance.sample(range(1, len(rows)), len(rows) - 1)]
    numbers = {place: number for number, place in enumerate(order)}
    rows = [[step and (numbers[step[0]], step[1]) for step in rows[place]] for place in order]
    return first, rows, [ends[place] for place in order]
