"""Tables, whose places step by each sign to another place, or by -1 to none.

A table is a list of rows, one for each place; a row has one step for each sign, in ascending order of the
signs. A word leads from place 0 by the steps of its signs. Labels say for each place what counts there besides
its steps. The operators of stocks use these functions, so each one changes only lists and dicts of its own.
"""


def reached(rows):
    """The places that some word leads to, in the order of the first words, in shortlex order."""
    seen = {0: True}
    places = [0]
    at = 0
    while at < len(places):
        place = places[at]
        for step in rows[place]:
            if step != -1 and step not in seen:
                seen[step] = True
                places.append(step)
        at += 1
    return places


def first_words(rows, signs):
    """For each place the first word, in shortlex order, that leads to it, or None."""
    found = [None for _ in rows]
    found[0] = ""
    for place in reached(rows):
        for sign, step in zip(signs, rows[place]):
            if step != -1 and found[step] is None:
                found[step] = found[place] + sign
    return found


def useful(rows, goods):
    """The places that some word leads to and from which a good place is reached, in the order of reached."""
    leads = _leading(rows, goods)
    return [place for place in reached(rows) if leads[place]]


def _leading(rows, goods):
    """For each place whether a good place is reached from it."""
    before = [[] for _ in rows]
    for place, row in enumerate(rows):
        for step in row:
            if step != -1:
                before[step].append(place)
    leads = [bool(good) for good in goods]
    places = [place for place, good in enumerate(goods) if good]
    while len(places) > 0:
        place = places.pop()
        for source in before[place]:
            if not leads[source]:
                leads[source] = True
                places.append(source)
    return leads


def cut(rows, places):
    """The rows of these places only, numbered in the order given. Steps to other places become -1."""
    numbers = {place: number for number, place in enumerate(places)}
    return [[numbers.get(step, -1) for step in rows[place]] for place in places]


def merged(rows, labels):
    """The table in which places that act alike are one place, and an old place for each of its places.

    Two places act alike if the same continuations can be stepped from them, and lead to places with equal labels.
    The new places are numbered in the order of the first words, in shortlex order, that lead to them.
    """
    classes = _classes(rows, labels)
    numbers = {classes[0]: 0}
    picked = [0]
    at = 0
    while at < len(picked):
        place = picked[at]
        for step in rows[place]:
            if step != -1 and classes[step] not in numbers:
                numbers[classes[step]] = len(picked)
                picked.append(step)
        at += 1
    steps = [[-1 if goal == -1 else numbers[classes[goal]] for goal in rows[old]] for old in picked]
    return steps, picked


def _classes(rows, labels):
    """For each place the number of its class: the places that act alike (see merged).

    By Hopcroft's method: a class is split if a sign leads only some of its places into another class. Of the
    two parts of a class only the smaller one must be looked at again, so few places are looked at often.
    """
    classes = list(_numbers(labels))
    members = [{} for _ in range(max(classes) + 1)]
    for place, number in enumerate(classes):
        members[number][place] = True
    sources = _sources(rows)
    waiting = list(range(len(members)))
    waits = [True for _ in members]
    while len(waiting) > 0:
        target = waiting.pop()
        waits[target] = False
        # A list of its own: the class that is looked at may itself be split.
        places = list(members[target])
        for by_place in sources:
            hits = _hits(by_place, places, classes)
            for number, found in hits.items():
                if len(found) < len(members[number]):
                    part = len(members)
                    members.append({})
                    for place in found:
                        del members[number][place]
                        members[part][place] = True
                        classes[place] = part
                    # If the whole class waits, its rest goes on waiting, so that only the part is to be added.
                    again = part if waits[number] or len(found) <= len(members[number]) else number
                    waiting.append(again)
                    waits.append(False)
                    waits[again] = True
    return classes


def _numbers(labels):
    """For each place a number; equal labels have equal numbers, counted from 0."""
    known = {}
    numbers = []
    for label in labels:
        if label not in known:
            known[label] = len(known)
        numbers.append(known[label])
    return numbers


def _sources(rows):
    """For each sign, and then for each place, the places from which the sign leads there."""
    sources = [[[] for _ in rows] for _ in rows[0]]
    for place, row in enumerate(rows):
        for rank, step in enumerate(row):
            if step != -1:
                sources[rank][step].append(place)
    return sources


def _hits(by_place, places, classes):
    """The sources of these places, in lists by their classes."""
    hits = {}
    for place in places:
        for source in by_place[place]:
            number = classes[source]
            if number not in hits:
                hits[number] = []
            hits[number].append(source)
    return hits


def paired(first, second):
    """The table that goes through two tables at once, and its places as pairs of their places.

    A table that a word has left has the place -1 in the pair. The places are in the order of reached.
    """
    pairs = [(0, 0)]
    numbers = {(0, 0): 0, (-1, -1): -1}
    rows = []
    at = 0
    while at < len(pairs):
        one, two = pairs[at]
        row = []
        for pair in zip(_steps(first, one), _steps(second, two)):
            if pair not in numbers:
                numbers[pair] = len(pairs)
                pairs.append(pair)
            row.append(numbers[pair])
        rows.append(row)
        at += 1
    return rows, pairs


def _steps(rows, place):
    return [-1 for _ in rows[0]] if place == -1 else rows[place]
