"""Printed tables: points 65 and 66."""

import inspect
import unittest

from cliplore import printing
from cliplore.books import Book
from cliplore.lots import Lot
from cliplore.machines import Machine, machine_of
from cliplore.printing import account_lines, machine_lines
from cliplore.rules import Rule
from cliplore.signs import Alphabet
from cliplore.stocks import Stock
from tests.plain_books import everything

ALPHABET = Alphabet("ba", "a")


def read(text):
    return Rule.read(ALPHABET, text)


class MachineTest(unittest.TestCase):
    def test_point_65_a_small_machine(self):
        self.assertEqual(machine_lines(machine_of(read("add a"))), [
            "first=",
            "place  -           a           b           end",
            "    0  0/-         0/a         0/b         =a"])

    def test_point_65_none_in_a_step_and_at_an_end(self):
        machine = Machine(ALPHABET, "b-a", [[(1, ""), None, (0, "ab")], [None, None, None]], [None, ""])
        self.assertEqual(machine_lines(machine), [
            "first=b-a",
            "place  -           a           b           end",
            "    0  1/          .           0/ab        .",
            "    1  .           .           .           ="])

    def test_point_65_texts_that_are_too_wide(self):
        machine = Machine(ALPHABET, "", [[(0, "aaaaaaaa"), (0, "aaaaaaaaa"), (0, "b" * 20)]], ["a" * 15])
        self.assertEqual(machine_lines(machine)[2],
                         "    0  0/aaaaaaaa  0/aaaaaaaaa  0/bbbbbbbbbbbbbbbbbbbb  =aaaaaaaaaaaaaaa")

    def test_point_65_numbers_of_two_figures_and_more(self):
        word = "ab" * 60
        lines = machine_lines(machine_of(read("keep"), Stock.listed(ALPHABET, [word, "b"])))
        self.assertEqual(len(lines), 2 + 121)
        self.assertEqual(lines[2], f"    0  .           1/{word}  2/b         .")
        self.assertEqual([line[:7] for line in lines[11:14]], ["    9  ", "   10  ", "   11  "])
        self.assertEqual(lines[12], "   10  .           .           11/         .")
        self.assertEqual(lines[13], "   11  .           12/         .           .")
        self.assertEqual(lines[103], "  101  .           102/        .           .")
        wide = Machine(ALPHABET, "", [[(100000, "ab"), None, (99999, "aba")]] * 100001, [None] * 100001)
        lines = machine_lines(wide)
        self.assertEqual(lines[-1], "100000  100000/ab   .           99999/aba   .")
        self.assertEqual(lines[-2], "99999  100000/ab   .           99999/aba   .")

    def test_point_65_other_alphabets(self):
        one = Machine(Alphabet("z"), "z", [[None, (0, "-")]], ["z"])
        self.assertEqual(machine_lines(one), ["first=z", "place  -           z           end",
                                              "    0  .           0/-         =z"])
        eight = machine_lines(machine_of(Rule(Alphabet("hgfedcba"))))
        self.assertEqual(eight[1], "place" + "".join(f"  {sign}         " for sign in "-abcdefgh") + "  end")

    def test_point_65_no_word_is_accepted(self):
        self.assertEqual(machine_lines(machine_of(read("keep"), Stock.listed(ALPHABET, [])))[2],
                         "    0  .           .           .           .")

    def test_point_1_the_lines_are_fresh(self):
        machine = machine_of(read("add a"))
        machine_lines(machine).clear()
        self.assertEqual(len(machine_lines(machine)), 3)


class AccountTest(unittest.TestCase):
    def test_point_66_without_entries(self):
        book = Book(Lot.made(ALPHABET, "drop vowels", "once all", depth=1), Stock.every(ALPHABET))
        self.assertEqual(account_lines(book), [
            "  0  fits          none  keep",
            "  1  fits          none  drop vowels",
            "  2  fits          none  once all"])

    def test_point_66_with_one_entry_and_several(self):
        book = Book(Lot.made(ALPHABET, "drop vowels", "once all", depth=1), Stock.every(ALPHABET), limit=2)
        book.tell("ab", "b")
        self.assertEqual(account_lines(book), [
            "  0  fits             1  keep",
            "  1  fits          none  drop vowels",
            "  2  fits             1  once all"])
        book.tell("bb", "bb")
        book.tell("aab", "b")
        book.tell("aa", "")
        self.assertEqual(account_lines(book), [
            "  0  out          1,3,4  keep",
            "  1  fits          none  drop vowels",
            "  2  out          1,2,3  once all"])

    def test_point_66_numbers_that_are_too_wide(self):
        book = Book(Lot.made(ALPHABET, "drop vowels", depth=1), Stock.every(ALPHABET), limit=6)
        for number in range(1, 13):
            book.tell("ab", "b")
            if number < 6:
                book.withdraw(number)
        self.assertEqual(account_lines(book)[0], "  0  out   6,7,8,9,10,11,12  keep")
        book.change_limit(2)
        self.assertEqual(account_lines(book)[0], "  0  out          6,7,8  keep")
        book.change_limit(3)
        self.assertEqual(account_lines(book)[0], "  0  out        6,7,8,9  keep")
        book.withdraw(6)
        book.change_limit(4)
        self.assertEqual(account_lines(book)[0], "  0  out    7,8,9,10,11  keep")
        book.withdraw(7)
        self.assertEqual(account_lines(book)[0], "  0  out   8,9,10,11,12  keep")

    def test_point_66_the_first_rule_of_each_class(self):
        texts = ("drop [a]", "keep", "drop vowels", "once joints", "add a; add b")
        book = Book(Lot([read(text) for text in texts]), Stock.shaped(ALPHABET, "L*"))
        self.assertEqual([line[25:] for line in account_lines(book)], ["drop [a]", "keep", "add a; add b"])

    def test_point_66_class_numbers_of_two_figures_and_more(self):
        names = ("all", "letters", "vowels", "consonants", "joints")
        texts = [f"drop {name}{after}{each}" for name in names for after in ("", " after 1", " after 2", " after 3")
                 for each in ("", " each")]
        rules = [read(text) for text in texts] + [read(f"{text}; add {sign}") for sign in "-ab" for text in texts]
        book = Book(Lot(rules), Stock.every(ALPHABET))
        lines = account_lines(book)
        self.assertGreater(len(lines), 100)
        self.assertEqual([line[:5] for line in (lines[9], lines[10], lines[100])], ["  9  ", " 10  ", "100  "])
        for number, (line, numbers) in enumerate(zip(lines, book.all_classes())):
            self.assertEqual(line, f"{number:3d}  fits          none  {rules[numbers[0]]}")

    def test_point_1_the_book_stays_as_it_is(self):
        book = Book(Lot.made(ALPHABET, "drop vowels", depth=1), Stock.every(ALPHABET))
        book.tell("ab", "b")
        before = everything(book)
        account_lines(book).clear()
        self.assertEqual(everything(book), before)

    def test_the_interface(self):
        for name, given in (("machine_lines", "(machine)"), ("account_lines", "(book)")):
            function = getattr(printing, name)
            self.assertEqual(function.__module__, "cliplore.printing")
            self.assertEqual(str(inspect.signature(function)), given)


if __name__ == "__main__":
    unittest.main()
