"""Whether two words of a stock get the same short form: clashes and apart tables (points 38 to 40).

A row is a tuple of two places, or -1 for a word that has ended, and of what remains of the two texts. An option
of a place is a tuple: the place where it continues, the text that it writes, and its sign, or "" if the word ends.
"""

from heapq import heappop, heappush
from itertools import combinations

from cliplore.machines import machine_of
from cliplore.tables import first_words
from cliplore.writings import next_places, reduced

_ENDED = -1
_CLASH = (-1, -1, "", "")


def decide(rule, stock):
    """Two words that clash, or an apart table that holds."""
    machine = machine_of(rule, stock)
    clash = first_clash(machine)
    if clash is not None:
        return "clash", clash[0], clash[1]
    return "apart", _apart_rows(machine)


def first_clash(machine):
    """Two words that get the same text, with the fewest signs in total, or None."""
    options = _options(machine)
    # What has the fewest signs so far is looked at first.
    queue = []
    for row, one, two in _started(machine, options):
        heappush(queue, (len(one) + len(two), row, one, two))
    seen = {}
    while len(queue) > 0:
        signs, row, one, two = heappop(queue)
        if row == _CLASH:
            words = sorted([one, two], key=lambda word: (len(word), word))
            return words[0], words[1]
        if row not in seen:
            seen[row] = True
            for next_row, more_one, more_two in _following(options, row):
                heappush(queue, (signs + len(more_one + more_two), next_row, one + more_one, two + more_two))
    return None


def _apart_rows(machine):
    """The start rows and all that follows from them."""
    options = _options(machine)
    waiting = [entry[0] for entry in _started(machine, options)]
    found = {}
    while len(waiting) > 0:
        row = waiting.pop()
        if row not in found:
            found[row] = True
            waiting.extend([entry[0] for entry in _following(options, row)])
    return sorted(list(found))


def check_apart(rule, stock, rows):
    """Whether the rows are an apart table that holds."""
    machine = machine_of(rule, stock)
    options = _options(machine)
    known = {row: True for row in rows}
    if _CLASH in known or not all([_is_row(row, len(machine)) for row in rows]):
        return False
    needed = _started(machine, options)
    for row in rows:
        needed.extend(_following(options, row))
    return all([entry[0] in known for entry in needed])


def _is_row(row, size):
    """Whether the places of the row exist, or are -1, and one of its texts is empty."""
    one, two, left, right = row
    return _ENDED <= one < size and _ENDED <= two < size and (left == "" or right == "")


def _options(machine):
    """For each place its options, in order."""
    options = []
    for row, end in zip(machine.rows, machine.ends):
        ending = [] if end is None else [(_ENDED, end, "")]
        going = [(step[0], step[1], sign) for sign, step in zip(machine.alphabet.signs, row) if step is not None]
        options.append(ending + going)
    return options


def _started(machine, options):
    """The start rows, each with the shortest beginnings of two words that it stands for."""
    words = first_words([next_places(row) for row in machine.rows], machine.alphabet.signs)
    found = []
    for word, choices in zip(words, options):
        for one, two in combinations(choices, 2):
            found.append((_row(one[0], two[0], one[1], two[1]), word + one[2], word + two[2]))
    return [entry for entry in found if entry[0] is not None]


def _following(options, row):
    """The following rows of a row, each with the signs by which the two words go on, of which one is empty."""
    one, two, left, right = row
    found = []
    if left == "" and one != _ENDED:
        for place, text, sign in options[one]:
            found.append((_row(place, two, text, right), sign, ""))
    elif right == "" and two != _ENDED:
        for place, text, sign in options[two]:
            found.append((_row(one, place, left, text), "", sign))
    return [entry for entry in found if entry[0] is not None]


def _row(one, two, left, right):
    """The row with these texts reduced, or None if both remain non-empty."""
    left, right = reduced(left, right)
    if left != "" and right != "":
        return None
    return one, two, left, right
