"""Plans of questions: points 59 to 64."""

import inspect
import itertools
import random
import unittest

from cliplore import planning
from cliplore.books import Book
from cliplore.errors import NoClass, NoPlan, OutsideStock, TooMany
from cliplore.lots import Lot
from cliplore.planning import best_word, depth, lesson, plan, stall
from cliplore.rules import Rule
from cliplore.signs import Alphabet
from cliplore.stocks import Stock
from tests import plain_stages
from tests.plain_books import everything
from tests.plain_stages import every_stage

ALPHABET = Alphabet("ba", "a")
WORDS = list(plain_stages.words("-ab", 4))
SMALL = Lot.made(ALPHABET, "drop vowels", "once all", depth=1)
FUNCTIONS = (best_word, plan, depth, stall, lambda book, *words: lesson(book, 0, *words),
             lambda book, *words: lesson(book, 99, *words))


def read(text):
    return Rule.read(ALPHABET, text)


def forms(book, word):
    """The short form that each class that is left gives to the word."""
    return {number: book.lot.rules[book.all_classes()[number][0]](word) for number in book.left()}


def groups(book, word, numbers):
    """The classes of the numbers by their answers."""
    found = {}
    for number in numbers:
        found.setdefault(forms(book, word)[number], []).append(number)
    return found


class PlainPlans:
    """Least depths by trying each word for each group."""

    def __init__(self, book, words):
        self.forms = [forms(book, word) for word in words]
        self.known = {}

    def parts(self, numbers, index):
        found = {}
        for number in sorted(numbers):
            found.setdefault(self.forms[index][number], []).append(number)
        return found

    def depth(self, numbers):
        numbers = tuple(sorted(numbers))
        if len(numbers) == 1:
            return 0
        if numbers not in self.known:
            splits = [self.parts(numbers, index).values() for index in range(len(self.forms))]
            self.known[numbers] = 1 + min(max(self.depth(part) for part in parts)
                                          for parts in splits if len(parts) > 1)
        return self.known[numbers]


def some_books(seed, number, most):
    """Books with at most so many classes left."""
    chance = random.Random(seed)
    stages = [stage for stage, _ in every_stage(ALPHABET)]
    for _ in range(number):
        rules = [Rule(ALPHABET, *chance.sample(stages, chance.randint(1, 2))) for _ in range(chance.randint(1, most))]
        book = Book(Lot(list({str(rule): rule for rule in rules}.values())), Stock.every(ALPHABET), limit=1)
        if chance.random() < 0.5:
            word = chance.choice(WORDS)
            book.tell(word, chance.choice(rules)(word))
            book.tell(word, chance.choice(rules)(word))
        yield chance, book


def parting_words(chance, book, most):
    """Words that part every two classes that are left, or None if these few words do not."""
    words = [chance.choice(WORDS) for _ in range(chance.randint(1, most))]
    if first_unparted(book, words) is None:
        return words
    words += [book.parted(one, two) for one, two in itertools.combinations(book.left(), 2)]
    chance.shuffle(words)
    return words


def first_unparted(book, words):
    """The first two classes that are left and that none of the words parts, or None."""
    all_forms = [forms(book, word) for word in words]
    for one, two in itertools.combinations(book.left(), 2):
        if all(found[one] == found[two] for found in all_forms):
            return one, two
    return None


class PlanningTest(unittest.TestCase):
    def raises(self, error, attributes, call):
        with self.assertRaises(error) as caught:
            call()
        self.assertEqual(vars(caught.exception), attributes)

    def many_classes(self, number):
        """A book with so many classes, and words that part them."""
        texts = ["keep", "drop vowels", "drop consonants", "drop joints", "once all", "add a", "add b", "add -",
                 "drop all", "drop all after 1", "drop all after 2", "drop all after 3", "write a for all"]
        return Book(Lot([read(text) for text in texts[:number]]), Stock.every(ALPHABET)), ["aab-b--bb", "aa", "b"]


    def eight_classes(self):
        """A book whose classes drop each choice of three signs."""
        texts = ["; ".join(chosen) or "keep" for size in range(4) for chosen in itertools.combinations(
            ("drop [a]", "drop [b]", "drop joints"), size)]
        return Book(Lot([read(text) for text in texts]), Stock.every(ALPHABET))


class WordsTest(PlanningTest):
    def test_point_59_the_first_word_that_is_outside(self):
        book = Book(SMALL, Stock.shaped(ALPHABET, "L*"))
        for function in FUNCTIONS:
            for words, wrong in ((["-"], "-"), (["a", "a-", "?"], "a-"), (["?", "-"], "?"), (["ab", "aab", "A"], "A"),
                                 (["b", "b", "c", "b"], "c")):
                self.raises(OutsideStock, {"word": wrong}, lambda: function(book, *words))

    def test_point_59_before_anything_else(self):
        book, words = self.many_classes(11)
        for function in FUNCTIONS:
            self.raises(OutsideStock, {"word": "?"}, lambda: function(book, *words, "?"))
        book = Book(SMALL, Stock.listed(ALPHABET, []))
        for function in FUNCTIONS:
            self.raises(OutsideStock, {"word": ""}, lambda: function(book, ""))

    def test_point_59_words_several_times(self):
        book = Book(SMALL, Stock.every(ALPHABET))
        self.assertEqual(best_word(book, "b", "ab", "b", "ab"), "ab")
        self.assertEqual(depth(book, "ab", "ab", "bb", "ab", "bb"), 2)
        self.assertEqual(lesson(book, 0, "b", "ab", "ab", "bb", "bb"), ["ab", "bb"])
        self.assertEqual([len(replies) for _, _, replies in stall(book, "ab", "ab", "bb", "ab", "bb")][:1], [5])

    def test_point_60_against_short_words(self):
        for chance, book in some_books(60, 60, 14):
            words = [chance.choice(WORDS) for _ in range(chance.randint(1, 8))]
            largest = [max(map(len, groups(book, word, book.left()).values())) for word in words]
            self.assertEqual(best_word(book, *words), words[largest.index(min(largest))])

    def test_point_60_the_earliest_of_those_that_tie(self):
        book = Book(SMALL, Stock.every(ALPHABET))
        for words, best in ((["ab", "bb"], "ab"), (["bb", "ab"], "bb"), (["b", "bb", "ab"], "bb"),
                            (["ab", "abb"], "abb"), (["abb", "aab"], "abb"), (["b", "-"], "b"), (["-", "b"], "-")):
            self.assertEqual(best_word(book, *words), best)

    def test_point_60_the_largest_group_and_not_the_number_of_groups(self):
        texts = ("keep", "add a", "add b", "add -", "drop all", "drop vowels")
        book = Book(Lot([read(text) for text in texts]), Stock.every(ALPHABET))
        sizes = {word: sorted(map(len, groups(book, word, book.left()).values())) for word in ("", "a", "ab")}
        self.assertEqual(sizes, {"": [1, 1, 1, 3], "a": [1, 1, 1, 1, 2], "ab": [1, 1, 1, 1, 1, 1]})
        self.assertEqual(best_word(book, "", "a"), "a")

    def test_point_60_no_words_and_one_class(self):
        book = Book(SMALL, Stock.every(ALPHABET))
        self.assertIsNone(best_word(book))
        book.tell("a", "")
        self.assertEqual(best_word(book, "b", "ab"), "b")
        self.assertIsNone(best_word(book))

    def test_point_60_more_than_ten_classes(self):
        book, words = self.many_classes(13)
        self.assertEqual(best_word(book, "b", *words), words[0])


class PlanTest(PlanningTest):
    def plan_is_right(self, book, words):
        """Checks each condition of point 61, and returns the depth of the plan."""
        rows = plan(book, *words)
        self.assertIs(rows.__class__, list)
        self.assertEqual(rows[0][0], book.left())
        depths = [0] * len(rows)
        parents = []
        for number, row in reversed(list(enumerate(rows))):
            numbers, word, branches = row
            self.assertIs(row.__class__, tuple)
            self.assertEqual(numbers, sorted(numbers))
            if len(numbers) == 1:
                self.assertEqual((word, branches), (None, []))
                continue
            self.assertIn(word, words)
            found = groups(book, word, numbers)
            self.assertEqual([branch[0] for branch in branches], sorted(found))
            for branch in branches:
                self.assertIs(branch.__class__, tuple)
                short, other = branch
                self.assertGreater(other, number)
                self.assertEqual(rows[other][0], found[short])
                parents.append(other)
            depths[number] = 1 + max(depths[other] for _, other in branches)
        self.assertEqual(sorted(parents), list(range(1, len(rows))))
        return depths[0]

    def stall_is_right(self, book, words, least):
        """Checks each condition of point 63."""
        rows = stall(book, *words)
        if least == 0:
            self.assertEqual(rows, [])
            return
        self.assertEqual(rows[0][:2], (book.left(), least - 1))
        answers = [forms(book, word) for word in words]
        for number, row in enumerate(rows):
            self.assertIs(row.__class__, tuple)
            numbers, budget, replies = row
            self.assertGreaterEqual(len(numbers), 2)
            self.assertEqual(numbers, sorted(set(numbers)))
            self.assertGreaterEqual(budget, 0)
            self.assertEqual(len(replies), len(words) if budget > 0 else 0)
            for found, reply in zip(answers, replies):
                self.assertGreater(reply, number)
                others, other_budget, _ = rows[reply]
                self.assertLessEqual(set(others), set(numbers))
                self.assertEqual(len({found[other] for other in others}), 1)
                self.assertGreaterEqual(other_budget, budget - 1)

    def test_points_61_to_63_least_depth(self):
        depths = []
        for chance, book in some_books(61, 150, 10):
            words = parting_words(chance, book, 7)
            least = PlainPlans(book, words).depth(book.left())
            with self.subTest(f"{book.lot.texts()} {words}"):
                self.assertEqual(self.plan_is_right(book, words), least)
                self.assertEqual(depth(book, *words), least)
                self.stall_is_right(book, words, least)
            depths.append(least)
        for least in range(4):
            self.assertGreater(depths.count(least), 3, least)

    def test_point_61_one_class(self):
        book = Book(SMALL, Stock.every(ALPHABET))
        book.tell("a", "")
        for words in ((), ("b",), ("ab", "abb")):
            self.assertEqual(plan(book, *words), [([1], None, [])])
            self.assertEqual((depth(book, *words), stall(book, *words)), (0, []))

    def test_point_61_a_small_plan(self):
        book = Book(SMALL, Stock.every(ALPHABET))
        self.assertEqual(depth(book, "abb"), 1)
        self.assertEqual(plan(book, "abb"), [([0, 1, 2], "abb", [("ab", 1), ("abb", 2), ("bb", 3)]),
                                             ([2], None, []), ([0], None, []), ([1], None, [])])
        self.assertEqual(stall(book, "abb"), [([0, 1, 2], 0, [])])
        self.assertEqual(plan(book, "bb", "ab", "abb")[0][1], "abb")
        rows = plan(book, "bb", "ab")
        self.assertEqual(self.plan_is_right(book, ["bb", "ab"]), 2)
        self.assertEqual(len(rows), 5)

    def test_point_61_eight_classes_by_three_features(self):
        book = self.eight_classes()
        self.assertEqual(book.many, 8)
        words = ["a", "b", "-"]
        self.assertEqual((depth(book, *words), self.plan_is_right(book, words)), (3, 3))
        self.stall_is_right(book, words, 3)
        self.assertEqual(depth(book, *words, "ab"), 2)
        self.assertEqual(self.plan_is_right(book, ["ab", "ab-", *words]), 1)

    def test_point_61_branches_in_the_order_of_strings(self):
        book = Book(Lot([read(text) for text in ("drop all after 1", "drop [a]", "keep", "drop [b]", "drop all")]),
                    Stock.every(ALPHABET))
        self.assertEqual([short for short, _ in plan(book, "ba-aab")[0][2]], ["", "a-aa", "b", "b-b", "ba-aab"])

    def test_points_61_to_63_too_many(self):
        for number in (11, 12, 13):
            book, words = self.many_classes(number)
            self.assertEqual(book.many, number)
            for function in (plan, depth, stall):
                self.raises(TooMany, {"number": number}, lambda: function(book, *words))
                self.raises(TooMany, {"number": number}, lambda: function(book))
        book, words = self.many_classes(10)
        self.assertEqual(book.many, 10)
        self.assertEqual(depth(book, *words), PlainPlans(book, words).depth(book.left()))
        self.plan_is_right(book, words)
        # What counts is how many classes are left.
        book, words = self.many_classes(13)
        book.tell("aab", "aab")
        self.assertLessEqual(book.many, 10)
        self.stall_is_right(book, words, self.plan_is_right(book, words))

    def test_points_61_to_63_no_plan(self):
        book = Book(SMALL, Stock.every(ALPHABET))
        for words, one, two in (((), 0, 1), (("b",), 0, 1), (("ab",), 0, 2), (("bb",), 0, 1), (("", "-b"), 0, 1),
                                (("ba", "ab", "a"), 0, 2)):
            for function in (plan, depth, stall):
                self.raises(NoPlan, {"one": one, "two": two}, lambda: function(book, *words))
        found = 0
        for chance, book in some_books(62, 80, 10):
            words = [chance.choice(WORDS[:20]) for _ in range(chance.randint(0, 2))]
            pair = first_unparted(book, words)
            if pair is not None:
                found += 1
                for function in (plan, depth, stall):
                    self.raises(NoPlan, {"one": pair[0], "two": pair[1]}, lambda: function(book, *words))
        self.assertGreater(found, 20)

    def test_points_61_to_63_only_classes_that_are_left_count(self):
        book = Book(SMALL, Stock.every(ALPHABET))
        book.tell("bb", "bb")
        self.assertEqual(plan(book, "ab"), [([0, 1], "ab", [("ab", 1), ("b", 2)]), ([0], None, []), ([1], None, [])])
        self.assertEqual(stall(book, "ab"), [([0, 1], 0, [])])
        book.undo()
        self.raises(NoPlan, {"one": 0, "two": 2}, lambda: plan(book, "ab"))

    def test_point_62_ten_classes_and_many_words(self):
        book, _ = self.many_classes(10)
        words = WORDS[:100]
        self.assertEqual(depth(book, *words), PlainPlans(book, words).depth(book.left()))
        self.stall_is_right(book, words, depth(book, *words))

    def test_point_63_a_small_stall(self):
        book = Book(SMALL, Stock.every(ALPHABET))
        rows = stall(book, "bb", "ab")
        self.assertEqual(rows, [([0, 1, 2], 1, [1, 2]), ([0, 1], 0, []), ([0, 2], 0, [])])
        # A word that parts nothing is answered, too.
        self.stall_is_right(book, ["bb", "b", "ab", ""], 2)

    def test_point_1_lists_are_fresh_and_nothing_is_changed(self):
        book = Book(SMALL, Stock.every(ALPHABET))
        before = everything(book)
        words = ["bb", "ab"]
        for function in (plan, stall, lambda *given: lesson(given[0], 0, *given[1:])):
            expected = function(book, *words)
            told = function(book, *words)
            for row in told:
                if isinstance(row, tuple):
                    row[0].append(99)
                    row[2].append(99)
            told.clear()
            self.assertEqual(function(book, *words), expected)
        self.assertEqual(everything(book), before)


class LessonTest(PlanningTest):
    def lesson_is_right(self, book, number, words):
        """Checks point 64 by trying all choices of fewer words."""
        chosen = lesson(book, number, *words)
        self.assertIs(chosen.__class__, list)
        others = [other for other in book.left() if other != number]

        def parts_all(some):
            found = [forms(book, word) for word in some]
            return all(any(answers[other] != answers[number] for answers in found) for other in others)

        self.assertTrue(parts_all(chosen))
        # In the order of the arguments, and no word more often than it is passed.
        rest = iter(words)
        self.assertTrue(all(word in rest for word in chosen))
        for fewer in itertools.combinations(words, len(chosen) - 1) if chosen else ():
            self.assertFalse(parts_all(fewer))
        return len(chosen)

    def test_point_64_the_fewest_words(self):
        sizes = []
        for chance, book in some_books(64, 80, 14):
            words = [chance.choice(WORDS) for _ in range(chance.randint(0, 6))]
            for number in book.left():
                alike = [other for other in book.left() if other != number and all(
                    forms(book, word)[other] == forms(book, word)[number] for word in words)]
                if alike:
                    self.raises(NoPlan, {"one": number, "two": alike[0]}, lambda: lesson(book, number, *words))
                else:
                    sizes.append(self.lesson_is_right(book, number, words))
        for size in range(3):
            self.assertGreater(sizes.count(size), 2, size)

    def test_point_64_eight_classes_by_three_features(self):
        book = self.eight_classes()
        for number in range(8):
            self.assertEqual(lesson(book, number, "b", "a", "-"), ["b", "a", "-"])
            self.assertEqual(lesson(book, number, "b", "", "bb", "a", "-", "aa"), ["b", "a", "-"])
            self.assertEqual(self.lesson_is_right(book, number, ["b", "a-", "-b", "a", "-"]), 2)
            self.assertEqual(lesson(book, number, "b", "a-", "ab-"), ["ab-"])

    def test_point_64_in_the_order_of_the_arguments(self):
        book = Book(SMALL, Stock.every(ALPHABET))
        self.assertEqual(lesson(book, 0, "bb", "ab"), ["bb", "ab"])
        self.assertEqual(lesson(book, 0, "ab", "bb"), ["ab", "bb"])
        self.assertEqual(lesson(book, 0, "b", "bb", "-", "ab"), ["bb", "ab"])
        self.assertEqual(lesson(book, 0, "ab", "bb", "abb"), ["abb"])
        self.assertEqual(lesson(book, 1, "bb", "ab"), ["ab"])
        self.assertEqual(lesson(book, 2, "bb", "ab"), ["bb"])

    def test_point_64_one_class(self):
        book = Book(SMALL, Stock.every(ALPHABET))
        book.tell("a", "")
        self.assertEqual((lesson(book, 1), lesson(book, 1, "a", "b")), ([], []))

    def test_point_64_a_class_that_is_not_left(self):
        book = Book(SMALL, Stock.every(ALPHABET))
        for number in (-1, 3, 99):
            for words in ((), ("b",), ("abb",)):
                self.raises(NoClass, {"number": number}, lambda: lesson(book, number, *words))
        book.tell("bb", "bb")
        self.assertEqual(book.left(), [0, 1])
        self.raises(NoClass, {"number": 2}, lambda: lesson(book, 2))
        self.raises(NoClass, {"number": 2}, lambda: lesson(book, 2, "ab"))
        self.assertEqual(lesson(book, 0, "ab"), ["ab"])

    def test_point_64_no_plan_with_the_least_other_class(self):
        book = Book(SMALL, Stock.every(ALPHABET))
        for number, words, other in ((0, (), 1), (1, (), 0), (2, (), 0), (2, ("ab",), 0), (1, ("bb",), 0),
                                     (0, ("b", "ab"), 2), (0, ("bb",), 1)):
            self.raises(NoPlan, {"one": number, "two": other}, lambda: lesson(book, number, *words))
        self.assertEqual(lesson(book, 1, "ab"), ["ab"])

    def test_point_64_up_to_twelve_words(self):
        # Each of twelve words parts one other class, so that all of them are needed, and one word parts all.
        words = ["b" * size for size in range(1, 13)]
        texts = ["keep", "drop all after 1", "drop all after 2", "drop all after 3"]
        book = Book(Lot([read(text) for text in texts]), Stock.every(ALPHABET))
        self.assertEqual(lesson(book, 3, *words), ["bbbb"])
        self.assertEqual(self.lesson_is_right(book, 0, words[:12]), 1)
        for chance, book in some_books(65, 6, 12):
            words = chance.sample(WORDS, 12)
            for number in book.left():
                if all(any(forms(book, word)[other] != forms(book, word)[number] for word in words)
                       for other in book.left() if other != number):
                    self.lesson_is_right(book, number, words)

    def test_point_64_more_than_ten_classes(self):
        book, words = self.many_classes(13)
        for number in book.left():
            self.lesson_is_right(book, number, [*words, "ab", "--", "bb", "-a"])


class InterfaceTest(unittest.TestCase):
    def test_the_interface(self):
        for name in ("best_word", "plan", "depth", "stall", "lesson"):
            function = getattr(planning, name)
            self.assertEqual(function.__module__, "cliplore.planning")
            expected = "(book, number, *words)" if name == "lesson" else "(book, *words)"
            self.assertEqual(str(inspect.signature(function)), expected)


if __name__ == "__main__":
    unittest.main()
