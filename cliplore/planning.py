"""Plans of questions: which words to ask for, so as to find out which class is the right one (points 59 to 64).

A group of classes is an integer: the class at index k of those that are left is in the group if bit k is set. The
replies to a word are pairs of a short form and the group of the classes that give it, in ascending order.
"""

from itertools import combinations

from cliplore.errors import NoClass, NoPlan, TooMany

_MOST_CLASSES = 10


class Board:
    """The classes that are left, what they reply to each word, and how deep the best plan for each group is."""

    def __init__(self, book, words):
        answers = _answers(book, words)
        self.classes = book.left()
        if len(self.classes) > _MOST_CLASSES:
            raise TooMany(len(self.classes))
        self.replies = [_replies(self.classes, found) for found in answers]
        self.everyone = (1 << len(self.classes)) - 1
        for index, one in enumerate(self.classes):
            alike = _classes_in(self.classes, _common(self.everyone, _sharing(self.replies, 1 << index)))
            if len(alike) > 1:
                raise NoPlan(one, alike[1])
        # Of words that part the classes in the same way only the first one matters.
        self.useful_words = _useful_words(self.replies)
        self.depths = {}

    def parts(self, group, index):
        """The replies of a group to the word at this index."""
        return [(short, group & giving) for short, giving in self.replies[index] if group & giving != 0]

    def depth_of(self, group):
        """The least depth of a plan for the group."""
        if _is_single(group):
            return 0
        if group not in self.depths:
            depths = [self.depth_behind(group, index) for index in self.useful_words if self.splits(group, index)]
            self.depths[group] = 1 + min(depths)
        return self.depths[group]

    def depth_behind(self, group, index):
        """The least depth that is still needed after the word at this index."""
        return max([self.depth_of(part) for _, part in self.parts(group, index)])

    def splits(self, group, index):
        """Whether the classes of the group reply differently to the word at this index."""
        return len(self.parts(group, index)) > 1

    def question(self, group):
        """The index of the first word with which a plan of the least depth for the group can begin."""
        indexes = [index for index in self.useful_words
                   if self.splits(group, index) and 1 + self.depth_behind(group, index) == self.depth_of(group)]
        return indexes[0]

    def hardest_part(self, group, index):
        """Of the parts of the group by the word at this index, the first one that needs the deepest plan."""
        deepest = self.depth_behind(group, index)
        return [part for _, part in self.parts(group, index) if self.depth_of(part) == deepest][0]


def best_word(book, *words):
    """The word for which the largest group of classes that give the same answer is smallest, or None."""
    best = None
    fewest = 0
    for word, answers in zip(words, _answers(book, words)):
        largest = max([len(numbers) for _, numbers in answers])
        if best is None or largest < fewest:
            best = word
            fewest = largest
    return best


def plan(book, *words):
    """A plan of the least depth, as rows (numbers, word, branches)."""
    board = Board(book, words)
    groups = [board.everyone]
    rows = []
    while len(rows) < len(groups):
        group = groups[len(rows)]
        numbers = _classes_in(board.classes, group)
        branches = []
        if _is_single(group):
            rows.append((numbers, None, branches))
        else:
            index = board.question(group)
            for short, part in board.parts(group, index):
                branches.append((short, len(groups)))
                groups.append(part)
            rows.append((numbers, words[index], branches))
    return rows


def depth(book, *words):
    """The least depth of a plan."""
    board = Board(book, words)
    return board.depth_of(board.everyone)


def stall(book, *words):
    """Rows (numbers, budget, replies), which show that no plan is less deep."""
    board = Board(book, words)
    rows = []
    # The rows with one budget stand side by side, behind those with a greater one.
    groups = [board.everyone]
    for budget in reversed(range(board.depth_of(board.everyone))):
        begin = len(rows) + len(groups)
        # The groups that the replies of these rows lead to, each with its number among them.
        harder = {}
        for group in groups:
            replies = []
            for index in range(len(words) if budget > 0 else 0):
                part = board.hardest_part(group, index)
                if part not in harder:
                    harder[part] = len(harder)
                replies.append(begin + harder[part])
            rows.append((_classes_in(board.classes, group), budget, replies))
        groups = list(harder)
    return rows


def lesson(book, number, *words):
    """The fewest words whose short forms under one class no other class that is left shares completely."""
    answers = _answers(book, words)
    classes = book.left()
    if number not in classes:
        raise NoClass(number)
    everyone = (1 << len(classes)) - 1
    only = sum([1 << index for index, other in enumerate(classes) if other == number])
    sharing = _sharing([_replies(classes, found) for found in answers], only)
    others = [other for other in _classes_in(classes, _common(everyone, sharing)) if other != number]
    if len(others) > 0:
        raise NoPlan(number, others[0])
    chosen = _fewest(everyone, sharing, only)
    return [words[index] for index in chosen]


def _fewest(everyone, sharing, only):
    """The indexes of the fewest of these groups that have only this one in common. All of them together do."""
    for size in range(len(sharing)):
        for chosen in combinations(range(len(sharing)), size):
            if _common(everyone, [sharing[index] for index in chosen]) == only:
                return list(chosen)
    return list(range(len(sharing)))


def _answers(book, words):
    """The answers to each word. Raises OutsideStock for the first one that is not a word of the stock."""
    return [book.answers(word) for word in words]


def _replies(classes, answers):
    """The answers with groups instead of lists of classes."""
    bits = {number: 1 << index for index, number in enumerate(classes)}
    return [(short, sum([bits[giving] for giving in numbers])) for short, numbers in answers]


def _classes_in(classes, group):
    return [number for index, number in enumerate(classes) if (group >> index) & 1 == 1]


def _is_single(group):
    return group & (group - 1) == 0


def _sharing(replies, single):
    """For each word the group of the classes that reply to it as a single class does."""
    return [giving for row in replies for _, giving in row if giving & single != 0]


def _common(everyone, groups):
    """The group of the classes, of everyone, that are in each of these groups."""
    common = everyone
    for group in groups:
        common = common & group
    return common


def _useful_words(replies):
    """The indexes of the words that part classes, without those that part them as an earlier one does."""
    found = {}
    for index, row in enumerate(replies):
        groups = tuple(sorted([giving for _, giving in row]))
        if len(groups) > 1 and groups not in found:
            found[groups] = index
    return list(found.values())
