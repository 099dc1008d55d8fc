"""What a short form means: the words of a stock to which a rule gives it (points 41 to 43)."""

from cliplore.errors import BadWord
from cliplore.machines import Machine, machine_of
from cliplore.stocks import Stock
from cliplore.tables import first_words
from cliplore.writings import next_places


def meanings(rule, stock, short, *, most=6):
    """Yields the meanings with at most this many signs, in shortlex order."""
    meant = words_meant(machine_of(rule, stock), short)
    yield from meant.words(most)


def how_many(rule, stock, short, *, most=6):
    """How many meanings have at most this many signs."""
    return words_meant(machine_of(rule, stock), short).count(most)


def reach(rule, stock, short):
    """How far the meanings reach: that there are none, the length of the longest one, or a loop."""
    meant = words_meant(machine_of(rule, stock), short)
    if not bool(meant):
        return ("none",)
    coming, sizes = _struck_out(meant.rows)
    if max(coming) == 0:
        return "most", max(sizes)
    return _loop(meant, _looping_place(meant.rows, coming))


def words_meant(machine, short):
    """The stock of the words to which the machine gives this text."""
    if not machine.alphabet.is_word(short):
        raise BadWord(short)
    meant = machine.then(_only(machine.alphabet, short))
    return Stock(meant.alphabet, [next_places(row) for row in meant.rows], [end is not None for end in meant.ends])


def _only(alphabet, word):
    """The machine that accepts this word alone, and gives it the empty text."""
    rows = [[(place + 1, "") if sign == wanted else None for sign in alphabet.signs]
            for place, wanted in enumerate(word)]
    rows.append([None for _ in alphabet.signs])
    return Machine(alphabet, "", rows, [None if place < len(word) else "" for place in range(len(rows))])


def _struck_out(rows):
    """Strikes out, one by one, the places to which no step leads from a place that is not struck out.

    For each place there is how many steps lead to it in the end, and with how many steps a way goes there at most,
    which is right if nothing remains. Some word leads to each place.
    """
    coming = [0 for _ in rows]
    for row in rows:
        for step in row:
            if step != -1:
                coming[step] = coming[step] + 1
    sizes = [0 for _ in rows]
    struck = [0] if coming[0] == 0 else []
    while len(struck) > 0:
        place = struck.pop()
        for step in rows[place]:
            if step != -1:
                coming[step] = coming[step] - 1
                sizes[step] = max(sizes[step], sizes[place] + 1)
                if coming[step] == 0:
                    struck.append(step)
    return coming, sizes


def _looping_place(rows, coming):
    """A place that a word leads from to itself. To some places steps are still coming (see _struck_out)."""
    before = {}
    for place, row in enumerate(rows):
        if coming[place] > 0:
            for step in row:
                if step != -1:
                    before[step] = place
    # Each place here has one before it, so that the way back from any of them ends in a loop.
    place = min(list(before))
    for _ in rows:
        place = before[place]
    return place


def _loop(meant, place):
    """A loop through this place: how a word leads to it, from it to itself, and from it to an end."""
    signs = meant.alphabet.signs
    onward = first_words(meant.rows, signs, place)
    rounds = [word + sign for word, row in zip(onward, meant.rows) if word is not None
              for sign, step in zip(signs, row) if step == place]
    ends = [word for word, good in zip(onward, meant.goods) if good and word is not None]
    return "loop", first_words(meant.rows, signs)[place], min(rounds, key=len), min(ends, key=len)
