"""Whether two rules agree on a stock: parting words and comparing tables (points 34 to 37)."""

from cliplore.errors import Mixed
from cliplore.machines import machine_of
from cliplore.writings import reduced

# Stands for the place of the second machine once the texts have parted, whatever follows.
_PARTED = -1
_MOST_DELAYS = 2


def parting_word(first, second, stock):
    """The first word of the stock, in shortlex order, to which the rules give different short forms, or None."""
    return first_parting(machine_of(first, stock), machine_of(second, stock))


def first_parting(one, two):
    """The first word, in shortlex order, to which two machines give different texts, or None.

    The machines accept the same words, and both are in least form.
    """
    if one == two:
        return None
    nodes = [_node(0, 0, one.first, two.first)]
    words = {nodes[0]: ""}
    # How many nodes have the same two places. Behind any continuation, the texts of at least one of two such nodes
    # differ, so the word that is looked for never goes through a third one.
    delays = {nodes[0][:2]: 1}
    at = 0
    while not _differs(one, two, nodes[at]):
        word = words[nodes[at]]
        following = _next_nodes(one, two, nodes[at])
        for sign, node in following:
            places = node[:2]
            if node not in words and delays.get(places, 0) < _MOST_DELAYS:
                delays[places] = delays.get(places, 0) + 1
                words[node] = word + sign
                nodes.append(node)
        at += 1
    return words[nodes[at]]


def _node(place, other, left, right):
    """Where a word leads: to a place of each machine, and to what remains of the two texts."""
    left, right = reduced(left, right)
    if left != "" and right != "":
        return place, _PARTED, "", ""
    return place, other, left, right


def _next_nodes(one, two, node):
    """The signs by which a word goes on, in ascending order, each with the node to which it leads."""
    place, other, left, right = node
    found = []
    for rank, sign in enumerate(one.alphabet.signs):
        step = one.rows[place][rank]
        if step is not None and other == _PARTED:
            found.append((sign, (step[0], _PARTED, "", "")))
        elif step is not None:
            second_step = two.rows[other][rank]
            found.append((sign, _node(step[0], second_step[0], left + step[1], right + second_step[1])))
    return found


def _differs(one, two, node):
    """Whether the words that lead to the node are accepted, but get different texts."""
    place, other, left, right = node
    if one.ends[place] is None:
        return False
    return other == _PARTED or left + one.ends[place] != right + two.ends[other]


def compare(first, second, stock):
    """The parting word, or a comparing table that holds."""
    word = parting_word(first, second, stock)
    if word is not None:
        return "parted", word
    return "alike", _alike_rows(machine_of(first), machine_of(second), stock)


def _alike_rows(one, two, stock):
    """The rows for the places that words of the stock go through, if the machines agree on the stock."""
    if not bool(stock):
        return []
    triples = [(0, 0, 0)]
    texts = {(0, 0, 0): reduced(one.first, two.first)}
    at = 0
    while at < len(triples):
        following = _next_rows(one, two, stock, triples[at] + texts[triples[at]])
        for triple, remaining in following:
            if triple not in texts:
                texts[triple] = remaining
                triples.append(triple)
        at += 1
    return sorted([triple + texts[triple] for triple in triples])


def _next_rows(one, two, stock, row):
    """The places and the texts of the rows that must stand in a table in which this row stands."""
    place, first_place, second_place, left, right = row
    found = []
    for goal, step, other in zip(stock.rows[place], one.rows[first_place], two.rows[second_place]):
        if goal != -1:
            found.append(((goal, step[0], other[0]), reduced(left + step[1], right + other[1])))
    return found


def check_alike(first, second, stock, rows):
    """Whether the rows are a comparing table that holds."""
    if first.alphabet != second.alphabet or first.alphabet != stock.alphabet:
        raise Mixed()
    one = machine_of(first)
    two = machine_of(second)
    texts = {row[:3]: row[3:] for row in rows}
    if len(texts) < len(rows) or not all([_can_stand(one, two, stock, row) for row in rows]):
        return False
    if bool(stock) and texts.get((0, 0, 0)) != reduced(one.first, two.first):
        return False
    for row in rows:
        if not _agrees(one, two, stock, row):
            return False
        for triple, remaining in _next_rows(one, two, stock, row):
            if texts.get(triple) != remaining:
                return False
    return True


def _can_stand(one, two, stock, row):
    """Whether the places of the row exist and one of its texts is empty."""
    sizes = (len(stock.rows), len(one), len(two))
    return (row[3] == "" or row[4] == "") and all([0 <= place < size for place, size in zip(row, sizes)])


def _agrees(one, two, stock, row):
    """Whether words of the stock that end at the places of the row get the same text twice."""
    place, first_place, second_place, left, right = row
    return not stock.goods[place] or left + one.ends[first_place] == right + two.ends[second_place]
