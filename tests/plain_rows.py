"""What points 34 to 43 say of rows and words, written down a second time and in a plainer way."""

import itertools

from cliplore.machines import machine_of
from tests.plain_tables import common_beginning


def shortlex(word):
    return len(word), word


def reduced(left, right):
    size = len(common_beginning([left, right]))
    return left[size:], right[size:]


def walked(machine, word):
    """The place that the word leads to, and what is written up to there, or None."""
    place, text = 0, machine.first
    for sign in word:
        step = machine.rows[place][machine.alphabet.signs.index(sign)]
        if step is None:
            return None
        place, text = step[0], text + step[1]
    return place, text


def alike_rows(first, second, stock, words):
    """The rows for the places that these words lead to, by what each word is given, if the rules agree."""
    one, two = machine_of(first), machine_of(second)
    rows = set()
    for word in words:
        place = stock.lead(word) if stock else -1
        if place != -1:
            (first_place, left), (second_place, right) = walked(one, word), walked(two, word)
            rows.add((place, first_place, second_place, *reduced(left, right)))
    return sorted(rows)


def alike_holds(first, second, stock, rows):
    """Each condition of point 35, one behind the other."""
    one, two = machine_of(first), machine_of(second)
    for place, first_place, second_place, left, right in rows:
        if not (place in range(len(stock.rows)) and first_place in range(len(one)) and second_place in range(len(two))):
            return False
        if left and right:
            return False
    if len({row[:3] for row in rows}) != len(rows):
        return False
    if stock and (0, 0, 0, *reduced(one.first, two.first)) not in rows:
        return False
    for place, first_place, second_place, left, right in rows:
        if stock.goods[place] and left + one.ends[first_place] != right + two.ends[second_place]:
            return False
        for rank in range(len(stock.alphabet.signs)):
            if stock.rows[place][rank] != -1:
                goal, text = one.rows[first_place][rank]
                other, other_text = two.rows[second_place][rank]
                if (stock.rows[place][rank], goal, other, *reduced(left + text, right + other_text)) not in rows:
                    return False
    return True


def options(machine, place):
    """The options of a place by point 38, as pairs of the place behind and the text."""
    ending = [] if machine.ends[place] is None else [(-1, machine.ends[place])]
    return ending + [step for step in machine.rows[place] if step is not None]


def as_row(one, two, left, right):
    left, right = reduced(left, right)
    return [] if left and right else [(one, two, left, right)]


def start_rows(machine):
    rows = []
    for place in range(len(machine)):
        for (one, left), (two, right) in itertools.combinations(options(machine, place), 2):
            rows += as_row(one, two, left, right)
    return rows


def following(machine, row):
    one, two, left, right = row
    rows = []
    if left == "" and one != -1:
        for place, text in options(machine, one):
            rows += as_row(place, two, left + text, right)
    elif right == "" and two != -1:
        for place, text in options(machine, two):
            rows += as_row(one, place, left, right + text)
    return rows


def apart_rows(machine):
    """The start rows and all that follows from them, ascending."""
    rows = set(start_rows(machine))
    while True:
        more = rows | {found for row in rows for found in following(machine, row)}
        if more == rows:
            return sorted(rows)
        rows = more


def apart_holds(machine, rows):
    """Whether the rows are an apart table that holds, by point 38."""
    for one, two, left, right in rows:
        if one not in range(-1, len(machine)) or two not in range(-1, len(machine)) or (left and right):
            return False
    needed = start_rows(machine) + [found for row in rows for found in following(machine, row)]
    return (-1, -1, "", "") not in rows and all(row in rows for row in needed)


def fewest_signs(rule, words):
    """The least number of signs that two of these words have that get the same short form, or None."""
    firsts = {}
    totals = []
    for word in sorted(words, key=shortlex):
        if rule(word) in firsts:
            totals.append(len(firsts[rule(word)] + word))
        else:
            firsts[rule(word)] = word
    return min(totals, default=None)
