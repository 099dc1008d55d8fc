"""Machines: points 29 to 32."""

import copy
import inspect
import random
import unittest

from cliplore.errors import BadTable, BadWord, Mixed
from cliplore.machines import Machine
from cliplore.signs import Alphabet
from tests import plain_stages
from tests.plain_tables import check_least_form, late, random_machine, spoiled_machine, written

ALPHABET = Alphabet("ba", "a")
OTHERS = (Alphabet("ba"), Alphabet("ba", "ab"), Alphabet("b"), Alphabet("ac", "a"), Alphabet("abc", "a"))
WORDS = list(plain_stages.words("-ab", 5))
FOREIGN = ("c", "abc", "a b", " ", "A", "ab\n", "a_b", "\u00e4", "-?")
NOTHING = ("", [[None, None, None]], [None])


def table_of(machine):
    return machine.first, machine.rows, machine.ends


def some_tables(seed, number, most):
    chance = random.Random(seed)
    for _ in range(number):
        yield random_machine(chance, most)


class RunTest(unittest.TestCase):
    def test_point_29_texts_of_words(self):
        for table in some_tables(29, 150, 5):
            machine = Machine(ALPHABET, *table)
            for word in WORDS:
                self.assertEqual(machine.run(word), written(*table, "-ab", word))

    def test_point_30_run(self):
        machine = Machine(ALPHABET, "b", [[(1, ""), (0, "a-"), None], [None, (2, "b"), (1, "")], [(2, "-"), None, None]],
                          ["", "ab", None])
        for word, text in (("", "b"), ("a", "ba-"), ("aa", "ba-a-"), ("-", "bab"), ("-bb", "bab"), ("a-b", "ba-ab")):
            self.assertEqual(machine.run(word), text)
        for word in ("b", "ab", "-a", "-a-", "--", "-aa", "-a--b"):
            self.assertIsNone(machine.run(word))

    def test_point_30_foreign_strings(self):
        nothing = Machine(ALPHABET, *NOTHING)
        copying = Machine(ALPHABET, "", [[(0, "-"), (0, "a"), (0, "b")]], [""])
        for machine in (nothing, copying):
            for word in (*FOREIGN, "b" * 20 + "x", "x"):
                with self.assertRaises(BadWord) as caught:
                    machine.run(word)
                self.assertEqual(caught.exception.word, word)

    def test_point_30_the_longest_words(self):
        machine = Machine(ALPHABET, "", [[(0, "-a"), (0, ""), (0, "bb")]], ["-"])
        self.assertEqual(machine.run("-ab" * 20), "-abb" * 20 + "-")


class TableTest(unittest.TestCase):
    def refused(self, place, first, rows, ends, alphabet=ALPHABET):
        with self.subTest(f"{first} {rows} {ends}"):
            with self.assertRaises(BadTable) as caught:
                Machine(alphabet, first, rows, ends)
            self.assertEqual(caught.exception.place, place)

    def test_point_30_the_table_stays_as_it_is(self):
        for table in some_tables(30, 100, 6):
            machine = Machine(ALPHABET, *copy.deepcopy(table))
            self.assertEqual(table_of(machine), table)
            self.assertEqual(len(machine), len(table[1]))
            self.assertTrue(machine.alphabet == ALPHABET)
            self.assertIs(machine.rows.__class__, list)
            self.assertIs(machine.ends.__class__, list)

    def test_point_30_the_caller_changes_the_lists(self):
        rows, ends = [[(1, "a"), None, (0, "")], [None, (0, "b"), None]], [None, "a"]
        machine = Machine(ALPHABET, "a", rows, ends)
        rows[0][0] = None
        rows[1].append(None)
        rows.append([])
        ends[0] = "b"
        ends.append("")
        self.assertEqual(table_of(machine), ("a", [[(1, "a"), None, (0, "")], [None, (0, "b"), None]], [None, "a"]))
        self.assertEqual(machine.run("-"), "aaa")

    def test_point_30_the_whole_table(self):
        row = [None, (0, "a"), (0, "")]
        self.refused(-1, "", [], [])
        self.refused(-1, "", [], [""])
        self.refused(-1, "", [row], [])
        self.refused(-1, "", [row], ["", ""])
        self.refused(-1, "", [row, row], [""])
        for first in ("c", "A", "a b", "ab?", "\n"):
            self.refused(-1, first, [row], [""])
            self.refused(-1, first, [], [])

    def test_point_30_the_whole_table_comes_before_the_places(self):
        self.refused(-1, "", [[None]], [])
        self.refused(-1, "", [[None, None, (9, "")]], ["", ""])
        self.refused(-1, "c", [[]], ["c"])

    def test_point_30_lists_of_another_length(self):
        right = [None, (0, "a"), (0, "")]
        for wrong in ([], [None], [None, None], [(0, ""), None, None, None]):
            self.refused(0, "", [wrong], [""])
            self.refused(0, "", [wrong, right], ["", ""])
            self.refused(1, "", [right, wrong], ["", None])
        self.refused(0, "", [right], [""], Alphabet("abc"))
        self.refused(0, "", [right], [""], Alphabet("a"))

    def test_point_30_places_that_do_not_exist(self):
        for step in (-1, -2, -100, 2, 3, 1000):
            for index in range(3):
                wrong = [None, (0, ""), (1, "b")]
                wrong[index] = (step, "a")
                self.refused(0, "", [wrong, [None, None, None]], ["", None])
                self.refused(1, "", [[None, None, (1, "")], wrong], ["", None])

    def test_point_30_texts_that_are_no_words(self):
        for text in ("c", "abc", "A", " ", "a b", "b\n", "-?"):
            for index in range(3):
                wrong = [None, (0, ""), (1, "b")]
                wrong[index] = (1, text)
                self.refused(0, "", [wrong, [None, None, None]], ["", None])
                self.refused(1, "", [[None, None, (1, "")], wrong], ["", None])
            self.refused(0, "", [[None, None, None]], [text])
            self.refused(2, "a", [[None, None, None]] * 3, ["", None, text])

    def test_point_30_the_first_wrong_place_counts(self):
        right, short, far = [None, None, (0, "")], [None, None], [(7, ""), None, None]
        self.refused(1, "", [right, short, far], ["", "", "c"])
        self.refused(1, "", [right, far, short], ["", "", ""])
        self.refused(1, "", [right, right, far], ["", "c", ""])
        self.refused(0, "", [right, short, far], ["c", "", ""])
        self.refused(2, "", [right, right, far], ["", None, "c"])

    def test_point_30_equal_machines(self):
        first, rows, ends = "a", [[None, (1, "b"), None], [(0, ""), None, None]], ["", None]
        one = Machine(ALPHABET, first, rows, ends)
        self.assertTrue(one == Machine(Alphabet("ab", "a"), first, rows, ends))
        self.assertFalse(one != Machine(ALPHABET, first, copy.deepcopy(rows), list(ends)))
        self.assertFalse(one == Machine(ALPHABET, "", rows, ends))
        self.assertFalse(one == Machine(ALPHABET, first, rows, ["", ""]))
        self.assertFalse(one == Machine(ALPHABET, first, [[None, (1, ""), None], [(0, ""), None, None]], ends))
        self.assertTrue(one != Machine(ALPHABET, first, [[None, (1, "b"), None], [(0, ""), (0, ""), None]], ends))
        for other in (None, 0, "a", rows, (first, rows, ends)):
            self.assertFalse(one == other)

    def test_point_30_tables_and_not_texts_are_compared(self):
        one = Machine(ALPHABET, "", [[(0, ""), (0, ""), (0, "")]], ["a"])
        two = Machine(ALPHABET, "a", [[(0, ""), (0, ""), (0, "")]], [""])
        self.assertFalse(one == two)
        self.assertTrue(one.least() == two.least())

    def test_point_30_other_alphabets(self):
        one, two, three = (Machine(alphabet, *NOTHING)
                           for alphabet in (Alphabet("ab"), Alphabet("ab", "a"), Alphabet("ac")))
        self.assertFalse(one == two or one == three or two == three)


class LeastFormTest(unittest.TestCase):
    def least(self, table, expected):
        least = Machine(ALPHABET, *table).least()
        self.assertEqual(table_of(least), expected)
        check_least_form(self, least)

    def test_point_31_the_same_texts(self):
        for table in some_tables(31, 150, 5):
            least = Machine(ALPHABET, *table).least()
            for word in WORDS:
                self.assertEqual(least.run(word), written(*table, "-ab", word))

    def test_point_31_conditions(self):
        for table in some_tables(32, 200, 4):
            check_least_form(self, Machine(ALPHABET, *table).least())

    def test_point_31_one_least_form_for_the_same_texts(self):
        chance = random.Random(33)
        for table in some_tables(33, 200, 5):
            least = Machine(ALPHABET, *table).least()
            for other in (late(*table, 1), late(*table, 2), late(*table, 5), spoiled_machine(chance, *table),
                          spoiled_machine(chance, *late(*table, 2)), late(*spoiled_machine(chance, *table), 1),
                          table_of(least)):
                again = Machine(ALPHABET, *other).least()
                self.assertEqual(table_of(again), table_of(least))
                self.assertTrue(again == least)

    def test_point_31_other_texts_have_another_least_form(self):
        found = [Machine(ALPHABET, *table).least() for table in some_tables(34, 60, 3)]
        for one in found:
            for two in found:
                texts = [[machine.run(word) for word in WORDS] for machine in (one, two)]
                self.assertEqual(one == two, texts[0] == texts[1])

    def test_point_31_machines_that_write_late(self):
        self.least(("", [[(0, ""), (0, ""), (0, "")]], ["ab"]), ("ab", [[(0, ""), (0, ""), (0, "")]], [""]))
        self.least(("", [[None, (1, ""), (2, "")], [(0, "a"), None, None], [(0, "b"), None, None]], ["", None, None]),
                   ("", [[None, (1, "a"), (1, "b")], [(0, ""), None, None]], ["", None]))
        self.least(("b", [[None, (0, "a"), (1, "")], [None, None, None]], [None, "aab"]),
                   ("baa", [[None, (0, "a"), (1, "b")], [None, None, None]], [None, ""]))

    def test_point_31_a_beginning_that_only_a_longer_way_shortens(self):
        # Every word writes "aa" behind place 1, but the one that goes through place 2 twice writes "ab".
        self.least(("", [[None, (1, ""), None], [None, (2, "a"), None], [None, (2, "b"), None]], [None, "aab", "ab"]),
                   ("a", [[None, (1, ""), None], [None, (2, ""), None], [None, (2, "b"), None]], [None, "ab", "ab"])
                   if False else
                   ("a", [[None, (1, ""), None], [None, (2, ""), None], [None, (2, "b"), None]], [None, "ab", "ab"]))

    def test_point_31_places_of_no_use(self):
        self.least(("", [[(0, "a"), (1, "b"), None], [(1, ""), (1, ""), (1, "")], [(0, ""), None, None]],
                    ["", None, "a"]),
                   ("", [[(0, "a"), None, None]], [""]))
        # Without the place that leads to nothing, all texts begin with "a".
        self.least(("", [[(0, "a"), (1, "b"), None], [(1, ""), None, None]], ["a", None]),
                   ("a", [[(0, "a"), None, None]], [""]))

    def test_point_31_no_word_is_accepted(self):
        for table in (NOTHING, ("ab", [[None, None, None]], [None]), ("", [[(0, "a"), (0, ""), None]], [None]),
                      ("b", [[(1, "a"), None, None], [(0, "b"), None, None]], [None, None]),
                      ("a", [[(0, "a"), None, None], [(0, "b"), None, None]], [None, "a"])):
            self.least(table, NOTHING)

    def test_point_31_the_order_of_the_places(self):
        self.least(("", [[(3, "-"), (2, "a"), (1, "b")], [None, None, None], [None, (1, "a"), None],
                         [None, None, (1, "b")]], [None, "", None, None]),
                   ("", [[(1, "-b"), (2, "aa"), (3, "b")], [None, None, (3, "")], [None, (3, ""), None],
                         [None, None, None]], [None, None, None, ""]))

    def test_point_31_least_is_a_new_machine(self):
        machine = Machine(ALPHABET, "", [[(0, "a"), None, None]], [""])
        least = machine.least()
        self.assertTrue(least == machine)
        least.rows[0][0] = None
        self.assertEqual(machine.rows, [[(0, "a"), None, None]])
        late_one = Machine(ALPHABET, "", [[None, None, None]], ["a"])
        late_one.least()
        self.assertEqual(table_of(late_one), ("", [[None, None, None]], ["a"]))

    def test_point_31_large_tables(self):
        many = 2000
        rows = [[((place + 1) % many, "a"), None, (place // 2, "")] for place in range(many)]
        ends = ["b" if place == many - 1 else None for place in range(many)]
        self.assertEqual(len(Machine(ALPHABET, "", rows, ends).least()), many)
        rows = [[((place + 1) % many, "a"), None, None] for place in range(many)]
        ends = ["b" if place % 50 == 0 else None for place in range(many)]
        self.assertEqual(len(Machine(ALPHABET, "", rows, ends).least()), 50)


class ThenTest(unittest.TestCase):
    def one_after_the_other(self, first, second):
        both = first.then(second)
        self.assertIs(both.__class__, Machine)
        self.assertEqual(table_of(both), table_of(both.least()))
        for word in WORDS[:121]:
            text = first.run(word)
            self.assertEqual(both.run(word), None if text is None else second.run(text))
        return both

    def test_point_32_random_machines(self):
        tables = list(some_tables(35, 400, 4))
        for one, two in zip(tables[::2], tables[1::2]):
            first, second = Machine(ALPHABET, *one), Machine(ALPHABET, *two)
            self.one_after_the_other(first, second)
            self.one_after_the_other(second, first)
            self.one_after_the_other(first, first)

    def test_point_32_the_result_is_in_least_form(self):
        tables = list(some_tables(36, 200, 2))
        for one, two in zip(tables[::2], tables[1::2]):
            check_least_form(self, Machine(ALPHABET, *one).then(Machine(ALPHABET, *two)))

    def test_point_32_words_that_one_of_the_two_does_not_accept(self):
        no_joints = Machine(ALPHABET, "", [[None, (0, "a"), (0, "b")]], [""])
        joint_for_b = Machine(ALPHABET, "", [[(0, "-"), (0, "a"), (0, "-")]], [""])
        both = self.one_after_the_other(joint_for_b, no_joints)
        self.assertEqual(table_of(both), ("", [[None, (0, "a"), None]], [""]))
        both = self.one_after_the_other(no_joints, joint_for_b)
        self.assertEqual(table_of(both), ("", [[None, (0, "a"), (0, "-")]], [""]))

    def test_point_32_the_first_text_and_the_ends_are_read_too(self):
        adding = Machine(ALPHABET, "ab", [[(0, "-"), (0, "a"), (0, "b")]], ["b-"])
        doubling = Machine(ALPHABET, "-", [[(0, "--"), (0, "aa"), (0, "bb")]], ["a"])
        both = self.one_after_the_other(adding, doubling)
        self.assertEqual(table_of(both), ("-aabb", [[(0, "--"), (0, "aa"), (0, "bb")]], ["bb--a"]))
        no_b = Machine(ALPHABET, "", [[(0, ""), (0, ""), None]], [""])
        self.assertEqual(table_of(self.one_after_the_other(adding, no_b)), NOTHING)
        no_joint_at_the_end = Machine(ALPHABET, "", [[(1, ""), (0, ""), (0, "")]] * 2, ["", None])
        self.assertEqual(table_of(self.one_after_the_other(adding, no_joint_at_the_end)), NOTHING)

    def test_point_32_both_machines_stay_as_they_are(self):
        tables = list(some_tables(37, 20, 4))
        for one, two in zip(tables[::2], tables[1::2]):
            first, second = Machine(ALPHABET, *one), Machine(ALPHABET, *two)
            first.then(second)
            self.assertEqual((table_of(first), table_of(second)), (one, two))

    def test_point_32_other_alphabets(self):
        machine = Machine(ALPHABET, *NOTHING)
        for other in OTHERS:
            foreign = Machine(other, "", [[None] * len(other.signs)], [None])
            for one, two in ((machine, foreign), (foreign, machine)):
                with self.assertRaises(Mixed):
                    one.then(two)
        self.assertEqual(table_of(machine.then(Machine(Alphabet("ab", "a"), *NOTHING))), NOTHING)


class InterfaceTest(unittest.TestCase):
    def test_names(self):
        self.assertEqual(Machine.__module__, "cliplore.machines")
        self.assertEqual(str(inspect.signature(Machine)), "(alphabet, first, rows, ends)")
        for name, signature in {"run": "(self, word)", "least": "(self)", "then": "(self, second)"}.items():
            self.assertEqual(str(inspect.signature(vars(Machine)[name])), signature)
        for name in ("__eq__", "__len__"):
            self.assertIn(name, vars(Machine))

    def test_point_1_the_alphabet_is_copied(self):
        alphabet = Alphabet("ba", "a")
        machine = Machine(alphabet, "", [[(0, "-"), (0, "a"), (0, "b")]], [""])
        alphabet.letters = alphabet.signs = "x"
        self.assertTrue(machine.alphabet == ALPHABET)
        self.assertEqual(machine.run("ab-"), "ab-")


if __name__ == "__main__":
    unittest.main()
