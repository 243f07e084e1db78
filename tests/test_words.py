"""[16] Rules, books and parts as words, and what words say."""

import random
import unittest
from itertools import product

from eitherfields.errors import FieldError, InvalidWords
from eitherfields.sheets import is_book, is_part, is_rule
from eitherfields.words import read_book, read_part, read_rule, write_book, write_part, write_rule
from tests.helpers import LARGEST, all_parts, all_rules, kept_rules, same, some_books, some_part, some_rule
from tests.words_told import LETTERS, book_told, part_told, rule_told

SHEET = (3, 3, 2)
BOOK = (("either", 0, 0, 1, 2), ("match", 1, 2, ((0, 1), (2, 0))))
SHEETS = [(1,), (3,), (1, 1), (2, 3), (3, 2), (2, 1, 2)]

# Words of which some can stand somewhere, and signs that are no word.
ALPHABET = [*LETTERS, "i", "A", "ab", "in", "with", "or", "and", "try", "is", "-", "--", *"012345", "00", "-1", "+1",
            "1.0", "", "\n", "a\n", "\na", "0\n", "in\n", "a\nin", "and\n", ":", "0:", ":0", "0:0:0", "00:0", "0:00",
            "0;0", "0 :0", "0-0", "(0, 0)", ",", "0,1", "None",
            *[f"{low}:{high}" for low in range(6) for high in range(6)]]


class Texts:
    """All texts of a kind, as tuples of words, and all that they begin with."""

    def __init__(self, texts):
        self.texts = {tuple(text) for text in texts}
        self.begun = {text[:size] for text in self.texts for size in range(len(text) + 1)}

    def place(self, words):
        """The place that InvalidWords has for some words, None if they are a text."""
        for place in range(len(words)):
            if words[:place + 1] not in self.begun:
                return place
        return None if words in self.texts else len(words)


def rule_texts(sheet):
    return Texts([rule_told(rule) for rule in all_rules(sheet)])


def book_texts(sheet, most):
    rules = all_rules(sheet)
    return Texts([book_told(book) for size in range(most + 1) for book in product(rules, repeat=size)])


def part_texts(sheet):
    return Texts([part_told(part) for part in all_parts(sheet)])


class Reading(unittest.TestCase):

    def refused(self, reader, sheet, words, place):
        with self.assertRaises(FieldError) as caught:
            reader(sheet, words)
        self.assertIs(type(caught.exception), InvalidWords, (sheet, words))
        self.assertTrue(same(caught.exception.place, place), (sheet, words, caught.exception.place, place))

    def check_all_behind(self, reader, sheet, texts, begun):
        """Each word of the alphabet behind each beginning, and then one more."""
        for ahead in begun:
            for word in ALPHABET:
                words = ahead + (word,)
                text = " ".join(words)
                if " " in word:
                    continue
                place = texts.place(words)
                if place is None:
                    reader(sheet, text)
                else:
                    self.refused(reader, sheet, text, place)
                    if place < len(words):
                        self.refused(reader, sheet, text + " in", place)
                        self.refused(reader, sheet, text + " ", place)


class Rules(Reading):

    def test_the_document(self):
        for rule, text in ((("among", 0, (0, 2)), "a in 0 2"), (("among", 0, ()), "a in -"),
                           (("match", 0, 1, ((0, 1), (2, 0))), "a with b 0:1 2:0"),
                           (("match", 0, 1, ()), "a with b -"), (("either", 0, 0, 1, 2), "a 0 or b 2")):
            self.assertEqual(write_rule(SHEET, rule), text)
            self.assertTrue(same(read_rule(SHEET, text), rule))

    def test_each_rule_of_small_sheets_written_and_read_back(self):
        for sheet in SHEETS + [SHEET, (4, 3), (1, 5)]:
            for rule in all_rules(sheet):
                text = write_rule(sheet, rule)
                self.assertIs(type(text), str)
                self.assertEqual(text, " ".join(rule_told(rule)))
                self.assertTrue(same(read_rule(sheet, text), rule), (sheet, text))

    def test_rules_of_the_largest_sheet(self):
        dice = random.Random(1)
        for tight in (0.1, 0.5, 0.9, 1):
            for _ in range(100):
                rule = some_rule(dice, LARGEST, tight)
                text = write_rule(LARGEST, rule)
                self.assertEqual(text, " ".join(rule_told(rule)))
                self.assertTrue(same(read_rule(LARGEST, text), rule), text)

    def test_all_words_behind_all_beginnings(self):
        for sheet in SHEETS:
            texts = rule_texts(sheet)
            self.check_all_behind(read_rule, sheet, texts, texts.begun)

    def test_words_missing(self):
        for sheet in SHEETS:
            texts = rule_texts(sheet)
            for ahead in texts.begun - texts.texts - {()}:
                self.refused(read_rule, sheet, " ".join(ahead), len(ahead))

    def test_the_places(self):
        for text, place in (
                ("", 0), (" ", 0), ("-", 0), ("in", 0), ("d in 0", 0), ("A in 0", 0), ("a", 1), ("a ", 1),
                ("a  in 0", 1), ("a IN 0", 1), ("a 3 or b 0", 1), ("a - or b 0", 1), ("a in", 2), ("a in ", 2),
                ("a in 3", 2),
                ("a in 0 0", 3), ("a in 1 0", 3), ("a in 0 -", 3), ("a in - 0", 3), ("a in - -", 3), ("a in 2 0", 3),
                ("a in 0 1 2 3", 5), ("a in 0 1 2 ", 5), ("a in 0 2 1", 4), ("a in 0,2", 2), ("a in 0 and b in 0", 3),
                ("c in 0 2", 3), ("c in 1 2", 3), ("c with d 0:0", 1), ("c with", 1), ("c with a 0:0", 1), ("c 0", 1),
                ("c 0 or a 0", 1), ("c or", 1), ("b with", 2), ("b with a 0:0", 2), ("b with b 0:0", 2),
                ("b with d -", 2), ("b with c", 3), ("b with c 0:2", 3), ("b with c 3:0", 3), ("b with c 0 : 1", 3),
                ("b with c 0:1 0:0", 4), ("b with c 0:1 1:1", 4), ("b with c 1:0 0:1", 4), ("b with c 0:1 2:1", 4),
                ("b with c 0:1 2:0 1:0", 5), ("b with c - 0:0", 4), ("b with c 0:0 -", 4), ("b with c - -", 4),
                ("a with b 2:0 2:1", 4), ("a with b 2:0 ", 4), ("a 0", 2), ("a 0 in", 2), ("a 0 or", 3),
                ("a 0 or a 1", 3), ("b 0 or a 1", 3), ("a 0 or d 0", 3), ("a 0 or b", 4), ("a 0 or b 3", 4),
                ("a 0 or c 2", 4),
                ("a 0 or b -", 4), ("a 0 or b 0 1", 5), ("a 0 or b 0 and", 5), ("a 0 or b 0 or", 5),
                ("a 0 or b 0\n", 4), ("\na in 0", 0), ("a in 0\n", 2), ("a\nin 0", 0), ("a in\n0", 1),
                (" a in 0", 0), ("a in  0", 2)):
            self.refused(read_rule, SHEET, text, place)

    def test_a_field_alone(self):
        for text, place in (("a", 1), ("b in 0", 0), ("a with", 1), ("a 0", 1), ("a in 0 1", 3), ("a in 1", 2)):
            self.refused(read_rule, (1,), text, place)
        self.assertEqual(read_rule((1,), "a in 0"), ("among", 0, (0,)))
        self.assertEqual(read_rule((1,), "a in -"), ("among", 0, ()))

    def test_the_last_field_and_the_greatest_value(self):
        self.assertEqual(read_rule(LARGEST, "h in 4"), ("among", 7, (4,)))
        self.assertEqual(read_rule(LARGEST, "g 4 or h 4"), ("either", 6, 4, 7, 4))
        self.assertEqual(read_rule(LARGEST, "g with h 4:4"), ("match", 6, 7, ((4, 4),)))
        for text, place in (("h in 5", 2), ("h in 4 5", 3), ("h with", 1), ("h 0", 1), ("i in 0", 0), ("g 5", 1),
                            ("g with i 0:0", 2), ("g with h 4:4 4:3", 4), ("g with h 4:5", 3), ("g with h 5:4", 3)):
            self.refused(read_rule, LARGEST, text, place)


class Books(Reading):

    def test_the_document(self):
        self.assertEqual(write_book(SHEET, BOOK), "a 0 or b 2 and b with c 0:1 2:0")
        self.assertTrue(same(read_book(SHEET, "a 0 or b 2 and b with c 0:1 2:0"), BOOK))
        self.assertEqual(write_book(SHEET, ()), "-")
        self.assertTrue(same(read_book(SHEET, "-"), ()))

    def check_back(self, sheet, book):
        text = write_book(sheet, book)
        self.assertIs(type(text), str)
        self.assertEqual(text, " ".join(book_told(book)))
        self.assertTrue(same(read_book(sheet, text), book), (sheet, text))

    def test_books_of_one_and_two_rules_written_and_read_back(self):
        for sheet in SHEETS:
            rules = all_rules(sheet)
            for size in (1, 2):
                for book in list(product(rules, repeat=size))[:2000]:
                    self.check_back(sheet, book)

    def test_books_of_many_rules(self):
        dice = random.Random(2)
        for sheet in (SHEET, (5, 1, 4, 2), LARGEST):
            for book in some_books(3, sheet, 30, 20) + some_books(4, sheet, 30, 20, 0.2):
                self.check_back(sheet, book)
        for size in (20, 40, 60):
            self.check_back(LARGEST, kept_rules(dice, LARGEST, [(0,) * 8], size))
        self.check_back(SHEET, (("among", 0, ()),) * 20)
        self.check_back(SHEET, (("match", 0, 2, ()),) * 20)

    def test_all_words_behind_all_beginnings(self):
        for sheet in ((1,), (2,), (1, 1), (1, 2)):
            self.check_all_behind(read_book, sheet, book_texts(sheet, 3), book_texts(sheet, 2).begun)
        for sheet in ((2, 2), (2, 3)):
            self.check_all_behind(read_book, sheet, book_texts(sheet, 2), book_texts(sheet, 1).begun)

    def test_words_missing(self):
        for sheet in ((1,), (1, 2), (2, 2)):
            texts = book_texts(sheet, 2)
            for ahead in texts.begun - texts.texts - {()}:
                self.refused(read_book, sheet, " ".join(ahead), len(ahead))

    def test_the_places(self):
        for text, place in (
                ("", 0), (" ", 0), ("and", 0), ("--", 0), ("- ", 1), ("- -", 1), ("- and a in 0", 1), ("- a in 0", 1),
                (" -", 0), ("-\n", 0), ("a in -", None), ("a in - and", 4), ("a in - or", 3), ("a in - 0", 3),
                ("a in 2 and", 4), ("a in 2 0", 3), ("a in 0 and -", 4), ("a in 0 and and", 4),
                ("a in 0 and  b in 0", 4), ("a in 0  and b in 0", 3), ("a in 0 and b", 5), ("a in 0 and b in", 6),
                ("a in 0 and b in 3", 6),
                ("a in 0 b in 0", 3), ("a in 0 or b in 0", 3), ("a in 0, b in 0", 2), ("a in 0 and c with", 5),
                ("a with b - and c 0", 6), ("a with b 0:0 and b with c 0:0 0:1", 9), ("a in and b in 0", 2),
                ("a and b", 1), ("a 0 and b 0", 2), ("a 0 or and", 3), ("a 0 or b and", 4), ("a with and", 2),
                ("a with b and", 3), ("a in 0 and d in 0", 4), ("a in 0 and b in 0 and", 8),
                ("a in 0 and b in 0 and ", 8), ("a in 0 and b in 0 ", 7), ("a in 0\nand b in 0", 2),
                ("a in 0 and b in 1 0", 7), ("a in 1 and a in 0 1 and a in 2 1", 12)):
            if place is None:
                read_book(SHEET, text)
            else:
                self.refused(read_book, SHEET, text, place)

    def test_what_is_ahead_of_an_and_bars_nothing_behind_it(self):
        for text, book in (("a in 2 and a in 0", (("among", 0, (2,)), ("among", 0, (0,)))),
                           ("a with b 2:0 and a with b 0:0", (("match", 0, 1, ((2, 0),)), ("match", 0, 1, ((0, 0),)))),
                           ("c in 0 and b 0 or c 1", (("among", 2, (0,)), ("either", 1, 0, 2, 1))),
                           ("b in - and b in - and b in -", (("among", 1, ()),) * 3)):
            self.assertTrue(same(read_book(SHEET, text), book))

    def test_a_wrong_word_far_behind(self):
        book = tuple(("match", low, high, tuple((value, value) for value in range(5)))
                     for low in range(8) for high in range(low + 1, 8))
        words = book_told(book)
        self.assertEqual(len(words), 28 * 8 + 27)
        self.check_back(LARGEST, book)
        for place in range(0, len(words), 7):
            wrong = words[:place] + ["x"] + words[place + 1:]
            self.refused(read_book, LARGEST, " ".join(wrong), place)
        self.refused(read_book, LARGEST, " ".join(words + ["and"]), len(words) + 1)
        self.refused(read_book, LARGEST, " ".join(words + ["5:5"]), len(words))

    def test_the_longest_strings(self):
        self.refused(read_book, SHEET, " " * 4000, 0)
        self.refused(read_book, SHEET, "a" * 4000, 0)
        text = " and ".join(["a in -"] * 440)
        self.assertEqual(read_book(SHEET, text), (("among", 0, ()),) * 440)
        self.refused(read_book, SHEET, text + " and", 4 * 440)
        self.refused(read_book, SHEET, text + " " * 40, 4 * 440 - 1)


class Parts(Reading):

    def test_the_document(self):
        for part, text in (((None, None, None), "- - -"), ((1, None, None), "1 - -"), ((2, 2, 1), "2 2 1"),
                           ((None, 0, None), "- 0 -")):
            self.assertEqual(write_part(SHEET, part), text)
            self.assertTrue(same(read_part(SHEET, text), part))

    def test_all_parts_written_and_read_back(self):
        for sheet in SHEETS + [SHEET, (5,), (1, 5, 1)]:
            for part in all_parts(sheet):
                text = write_part(sheet, part)
                self.assertIs(type(text), str)
                self.assertEqual(text, " ".join(part_told(part)))
                self.assertTrue(same(read_part(sheet, text), part))

    def test_parts_of_the_largest_sheet(self):
        dice = random.Random(5)
        for fill in (0, 0.5, 1):
            for _ in range(30):
                part = some_part(dice, LARGEST, fill)
                self.assertTrue(same(read_part(LARGEST, write_part(LARGEST, part)), part))

    def test_all_words_behind_all_beginnings(self):
        for sheet in SHEETS:
            texts = part_texts(sheet)
            self.check_all_behind(read_part, sheet, texts, texts.begun)

    def test_the_places(self):
        for text, place in (
                ("", 0), (" ", 0), ("x", 0), ("3 0 0", 0), ("0", 1), ("-", 1), ("0 3 0", 1), ("0 0 2", 2), ("0 0", 2),
                ("- -", 2), ("0 0 0 0", 3), ("- - - -", 3), ("0 0 0 ", 3), (" 0 0 0", 0), ("0  0 0", 1), ("0 0 0 x", 3),
                ("0,0,0", 0), ("000", 0), ("0 0 0\n", 2), ("0\n0 0", 0), ("None 0 0", 0), ("-1 0 0", 0), ("0 00 0", 1),
                ("- - 1 and", 3), ("a in 0", 0)):
            self.refused(read_part, SHEET, text, place)


class WhatIsRead(unittest.TestCase):

    def test_it_is_a_rule_a_book_or_a_part(self):
        dice = random.Random(6)
        told = {read_rule: 0, read_book: 0, read_part: 0}
        words = ["a", "b", "c", "in", "with", "or", "and", "-", "0", "1", "2", "0:1", "1:0", "2:2"]
        for _ in range(20000):
            text = " ".join(dice.choice(words) for _ in range(dice.randint(1, 5)))
            for reader, test, writer in ((read_rule, is_rule, write_rule), (read_book, is_book, write_book),
                                         (read_part, is_part, write_part)):
                try:
                    value = reader(SHEET, text)
                except InvalidWords:
                    continue
                told[reader] += 1
                self.assertIs(test(SHEET, value), True)
                self.assertEqual(writer(SHEET, value), text)
        self.assertGreater(min(told.values()), 10, told)


if __name__ == "__main__":
    unittest.main()
