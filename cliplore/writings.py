"""Tables of machines: each step is None or a pair of the next place and the text that is written.

Ends say for each place what is written when the word ends there, or None. See points 29 to 31.
"""

from heapq import heappop, heappush

from cliplore.tables import merged, useful


def least_writing(first, rows, ends):
    """The least form of the table, as first, rows and ends."""
    steps = [next_places(row) for row in rows]
    places = useful(steps, [end is not None for end in ends])
    if len(places) == 0:
        return nothing_written(len(rows[0]))
    first, rows, ends = _written_early(first, _cut(rows, places), [ends[place] for place in places])
    labels = [(ends[place], tuple(_texts(row))) for place, row in enumerate(rows)]
    steps, picked = merged([next_places(row) for row in rows], labels)
    least = [_steps(row, _texts(rows[place])) for row, place in zip(steps, picked)]
    return first, least, [ends[place] for place in picked]


def nothing_written(width):
    """The least form of a table that accepts no word, as first, rows and ends."""
    return "", [[None for _ in range(width)]], [None]


def next_places(row):
    """The places to which the steps of the row lead, or -1."""
    return [-1 if step is None else step[0] for step in row]


def _texts(row):
    return [None if step is None else step[1] for step in row]


def _steps(places, texts):
    return [None if place == -1 else (place, text) for place, text in zip(places, texts)]


def _cut(rows, places):
    """The rows of these places only, numbered in the order given. Steps to other places become None."""
    numbers = {place: number for number, place in enumerate(places)}
    return [_steps([numbers.get(step, -1) for step in next_places(rows[place])], _texts(rows[place]))
            for place in places]


def _written_early(first, rows, ends):
    """The table that writes each text as early as possible. From each place an accepted word can be finished."""
    common = _common_beginnings(rows, ends)
    early_rows = [_early_row(row, common, len(common[place])) for place, row in enumerate(rows)]
    early_ends = [None if end is None else end[len(common[place]):] for place, end in enumerate(ends)]
    return first + common[0], early_rows, early_ends


def _early_row(row, common, size):
    """The row whose steps write what is common behind them, but not the first so many signs, written before."""
    return [None if step is None else (step[0], (step[1] + common[step[0]])[size:]) for step in row]


def _common_beginnings(rows, ends):
    """For each place the longest common beginning of all texts that are written from there on.

    One text that is written from each place stands for all of them at first. What such samples have in common
    at one place may still be too long there, since a text that is no sample may part earlier, but only at
    another place on its way. So the answer is the shortest of what is written on the way to any place,
    followed by what the samples have in common there.
    """
    samples = _shortest_texts(rows, ends)
    shared = []
    for place, row in enumerate(rows):
        texts = [step[1] + samples[step[0]] for step in row if step is not None]
        if ends[place] is not None:
            texts.append(ends[place])
        shared.append(common_beginning(texts))
    return _shortest_texts(rows, shared)


def _shortest_texts(rows, ends):
    """For each place a shortest text of those that are written from there on, with these ends."""
    sources = [[] for _ in rows]
    for place, row in enumerate(rows):
        for step in row:
            if step is not None:
                sources[step[0]].append((place, step[1]))
    queue = []
    for place, end in enumerate(ends):
        if end is not None:
            heappush(queue, (len(end), place, end))
    found = [None for _ in rows]
    while len(queue) > 0:
        length, place, text = heappop(queue)
        if found[place] is None:
            found[place] = text
            for source, written in sources[place]:
                if found[source] is None:
                    heappush(queue, (len(written) + length, source, written + text))
    return found


def common_beginning(texts):
    """The longest common beginning of one or more texts."""
    # All others lie between these two in Python's order, so they share what these two share.
    low = min(texts)
    high = max(texts)
    size = 0
    while size < len(low) and low[size] == high[size]:
        size += 1
    return low[:size]


def reduced(left, right):
    """What remains of two texts without their longest common beginning, as a pair."""
    size = len(common_beginning([left, right]))
    return left[size:], right[size:]
