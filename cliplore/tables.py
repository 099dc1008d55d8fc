"""Tables, whose places step by each sign to another place, or by -1 to none.

A table is a list of rows, one for each place; a row has one step for each sign, in ascending order of the
signs. A word leads from place 0 by the steps of its signs. Labels say for each place what counts there besides
its steps. The operators of stocks use these functions, so each one changes only lists and dicts under its own plain
local names, and nothing that is an item of them.
"""


def reached(rows, begin=0):
    """The places that some word leads to, in the order of the first words, in shortlex order.

    The words begin at place 0, or at another one.
    """
    seen = {begin: True}
    places = [begin]
    at = 0
    while at < len(places):
        place = places[at]
        for step in rows[place]:
            if step != -1 and step not in seen:
                seen[step] = True
                places.append(step)
        at += 1
    return places


def first_words(rows, signs, begin=0):
    """For each place the first word, in shortlex order, that leads to it, or None. See reached."""
    found = [None for _ in rows]
    found[begin] = ""
    for place in reached(rows, begin):
        for sign, step in zip(signs, rows[place]):
            if step != -1 and found[step] is None:
                found[step] = found[place] + sign
    return found


def useful(rows, goods):
    """The places that some word leads to and from which a good place is reached, in the order of reached."""
    leads = _leading(rows, goods)
    return [place for place in reached(rows) if leads[place]]


def _leading(rows, goods):
    """For each place whether a good place is reached from it."""
    width = len(rows[0])
    sources = _grouped([step for row in rows for step in row], len(rows))
    leads = [bool(good) for good in goods]
    places = [place for place, good in enumerate(goods) if good]
    while len(places) > 0:
        place = places.pop()
        for index in sources[place]:
            source = index // width
            if not leads[source]:
                leads[source] = True
                places.append(source)
    return leads


def _grouped(numbers, size):
    """For each number from 0 below the size, the indexes at which it stands. Elsewhere stands -1."""
    # For each number its last index so far, and for each index the one before it with the same number.
    last = [-1 for _ in range(size)]
    before = []
    for index, number in enumerate(numbers):
        if number == -1:
            before.append(-1)
        else:
            before.append(last[number])
            last[number] = index
    return [_traced(before, index) for index in last]


def _traced(before, index):
    """The indexes that a chain goes through, beginning with this one."""
    found = []
    while index != -1:
        found.append(index)
        index = before[index]
    return found


def cut(rows, places):
    """The rows of these places only, numbered in the order given. Steps to other places become -1."""
    numbers = {place: number for number, place in enumerate(places)}
    return [[numbers.get(step, -1) for step in rows[place]] for place in places]


def merged(rows, labels):
    """The table in which places that act alike are one place, and an old place for each of its places.

    Two places act alike if the same continuations can be stepped from them, and lead to places with equal labels.
    The new places are numbered in the order of the first words, in shortlex order, that lead to them.
    """
    classes = _classes(rows, labels)
    numbers = {classes[0]: 0}
    picked = [0]
    at = 0
    while at < len(picked):
        place = picked[at]
        for step in rows[place]:
            if step != -1 and classes[step] not in numbers:
                numbers[classes[step]] = len(picked)
                picked.append(step)
        at += 1
    steps = [[-1 if goal == -1 else numbers[classes[goal]] for goal in rows[old]] for old in picked]
    return steps, picked


def _classes(rows, labels):
    """For each place the number of its class: the places that act alike (see merged).

    By Hopcroft's method: a class is split if a sign leads only some of its places into another class. Of the
    two parts of a class only the smaller one must be looked at again, so few places are looked at often.
    """
    classes = list(_numbers(labels))
    # A list of members may name places that have left the class since, but the sizes count those in it only.
    members = list(_grouped(classes, max(classes) + 1))
    sizes = [len(group) for group in members]
    by_signs = [_grouped([row[rank] for row in rows], len(rows)) for rank in range(len(rows[0]))]
    waiting = list(range(len(members)))
    waits = [True for _ in members]
    while len(waiting) > 0:
        target = waiting.pop()
        waits[target] = False
        # These places are looked at for every sign, even if their class is itself split meanwhile.
        places = [place for place in members[target] if classes[place] == target]
        members[target] = places
        for sources in by_signs:
            groups = _hits(sources, places, classes)
            for found in groups:
                number = classes[found[0]]
                if len(found) < sizes[number]:
                    part = len(members)
                    members.append(found)
                    sizes.append(len(found))
                    sizes[number] = sizes[number] - len(found)
                    for place in found:
                        classes[place] = part
                    # If the whole class waits, its rest goes on waiting, so that only the part is to be added.
                    again = part if waits[number] or len(found) <= sizes[number] else number
                    waiting.append(again)
                    waits.append(False)
                    waits[again] = True
    return classes


def _numbers(labels):
    """For each place a number; equal labels have equal numbers, counted from 0."""
    known = {}
    numbers = []
    for label in labels:
        if label not in known:
            known[label] = len(known)
        numbers.append(known[label])
    return numbers


def _hits(sources, places, classes):
    """The sources of these places, in one list for each of their classes."""
    hits = [source for place in places for source in sources[place]]
    numbers = _numbers([classes[hit] for hit in hits])
    return [[hits[index] for index in group] for group in _grouped(numbers, max(numbers, default=-1) + 1)]


def paired(first, second):
    """The table that goes through two tables at once, and its places as pairs of their places.

    A table that a word has left has the place -1 in the pair. The places are in the order of reached.
    """
    pairs = [(0, 0)]
    numbers = {(0, 0): 0, (-1, -1): -1}
    rows = []
    at = 0
    while at < len(pairs):
        one, two = pairs[at]
        row = []
        for pair in zip(_row_of(first, one), _row_of(second, two)):
            if pair not in numbers:
                numbers[pair] = len(pairs)
                pairs.append(pair)
            row.append(numbers[pair])
        rows.append(row)
        at += 1
    return rows, pairs


def _row_of(rows, place):
    return [-1 for _ in rows[0]] if place == -1 else rows[place]
