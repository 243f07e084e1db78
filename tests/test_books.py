"""[14] What follows from books, and F5 to F7 of [8]."""

import random
import unittest
from itertools import combinations, permutations

from eitherfields.books import alike, because, breaking, follows, lean, learned, needless, only, parting
from eitherfields.pairs import essence
from eitherfields.sheets import is_book
from tests.helpers import (
    all_fillings, all_rules, books_of_two_rules, cases, essence_told, keeping, left_out_one_by_one, rule_keeps, same,
    with_mixes)

SHEET = (3, 3, 2)
BOOK = (("either", 0, 0, 1, 2), ("match", 1, 2, ((0, 1), (2, 0))))
NARROW = BOOK + (("among", 1, (0,)),)
UNKEPT = NARROW + (("among", 0, (1, 2)),)
CASES = cases(3) + books_of_two_rules((2, 2))
FEW_CASES = cases(4, many_books=5, most_rules=5)


def breaking_it(kept, rule):
    return [filling for filling in kept if not rule_keeps(rule, filling)]


def spare_told(sheet):
    """Whether a rule holds of all fillings that keep the rest of a book, by the definition."""
    return lambda rest, rule: breaking_it(keeping(sheet, rest), rule) == []


class FollowsAndBreaking(unittest.TestCase):

    def check(self, sheet, book, kept, rule):
        found = breaking_it(kept, rule)
        self.assertIs(follows(sheet, book, rule), found == [], (sheet, book, rule))
        self.assertTrue(same(breaking(sheet, book, rule), found[0] if found else None), (sheet, book, rule))

    def test_the_document(self):
        self.assertIs(follows(SHEET, BOOK, ("either", 0, 0, 2, 0)), True)
        self.assertIs(follows(SHEET, BOOK, ("among", 1, (0, 2))), True)
        self.assertIs(follows(SHEET, BOOK, ("among", 1, (0,))), False)
        self.assertEqual(breaking(SHEET, BOOK, ("among", 1, (0,))), (0, 2, 0))
        self.assertEqual(breaking(SHEET, BOOK, ("match", 0, 1, ((0, 0), (1, 2)))), (0, 2, 0))
        self.assertEqual(breaking(SHEET, BOOK, ("either", 0, 2, 2, 1)), (0, 2, 0))
        self.assertIsNone(breaking(SHEET, BOOK, ("either", 0, 0, 2, 0)))

    def test_all_rules_of_the_sheet(self):
        for sheet, book, kept in FEW_CASES:
            for rule in all_rules(sheet):
                self.check(sheet, book, kept, rule)

    def test_some_rules_of_the_sheet(self):
        for at, (sheet, book, kept) in enumerate(CASES):
            for rule in all_rules(sheet)[at % 7::7]:
                self.check(sheet, book, kept, rule)

    def test_each_rule_follows_from_a_book_that_nothing_keeps(self):
        for book in (UNKEPT, (("among", 2, ()),), (("match", 0, 1, ()),)):
            for rule in all_rules(SHEET):
                self.assertIs(follows(SHEET, book, rule), True)
                self.assertIsNone(breaking(SHEET, book, rule))

    def test_each_rule_of_a_book_follows(self):
        for sheet, book, _ in CASES:
            for rule in book:
                self.assertIs(follows(sheet, book, rule), True)


class Because(unittest.TestCase):

    def check(self, sheet, book, kept, rule):
        if breaking_it(kept, rule):
            self.assertIsNone(because(sheet, book, rule), (sheet, book, rule))
            return
        spare = spare_told(sheet)
        wanted = left_out_one_by_one(book, lambda rest, left_out: spare(rest, rule))
        self.assertTrue(same(because(sheet, book, rule), wanted), (sheet, book, rule))

    def test_the_document(self):
        self.assertEqual(because(SHEET, BOOK, ("either", 0, 0, 2, 0)), [0, 1])
        self.assertEqual(because(SHEET, BOOK, ("among", 1, (0, 2))), [1])
        self.assertEqual(because(SHEET, BOOK, ("among", 1, (0, 1, 2))), [])
        self.assertIsNone(because(SHEET, BOOK, ("among", 1, (0,))))
        self.assertEqual(because(SHEET, UNKEPT, ("among", 2, ())), [0, 2, 3])
        self.assertEqual(because(SHEET, BOOK + BOOK, ("either", 0, 0, 2, 0)), [0, 1])

    def test_cases(self):
        for at, (sheet, book, kept) in enumerate(FEW_CASES):
            for rule in all_rules(sheet)[at % 4::4]:
                self.check(sheet, book, kept, rule)
            for rule in book:
                self.check(sheet, book, kept, rule)


class AlikeAndParting(unittest.TestCase):

    def check(self, sheet, one, one_kept, other, other_kept):
        self.assertIs(alike(sheet, one, other), one_kept == other_kept, (sheet, one, other))
        apart = sorted(set(one_kept) ^ set(other_kept))
        self.assertTrue(same(parting(sheet, one, other), apart[0] if apart else None), (sheet, one, other))

    def test_the_document(self):
        self.assertIs(alike(SHEET, NARROW, (("among", 0, (0,)), ("among", 1, (0,)), ("among", 2, (1,)))), True)
        self.assertIs(alike(SHEET, BOOK, NARROW), False)
        self.assertEqual(parting(SHEET, BOOK, NARROW), (0, 2, 0))
        self.assertEqual(parting(SHEET, NARROW, BOOK), (0, 2, 0))
        self.assertIsNone(parting(SHEET, BOOK, BOOK[::-1]))
        self.assertEqual(parting(SHEET, UNKEPT, BOOK), (0, 0, 1))
        self.assertEqual(parting(SHEET, (), UNKEPT), (0, 0, 0))
        self.assertIs(alike(SHEET, UNKEPT, (("match", 0, 2, ()),)), True)
        self.assertIsNone(parting(SHEET, UNKEPT, (("match", 0, 2, ()),)))

    def test_the_least_one_of_both_sides(self):
        one, other = (("among", 0, (0, 2)),), (("among", 0, (1, 2)),)
        self.assertEqual(parting((3, 2), one, other), (0, 0))
        self.assertEqual(parting((3, 2), other, one), (0, 0))
        self.assertEqual(parting((3, 2), one + (("among", 1, (1,)),), other + (("among", 1, (1,)),)), (0, 1))

    def test_cases_of_one_sheet(self):
        by_sheet = {}
        for sheet, book, kept in CASES:
            by_sheet.setdefault(sheet, []).append((book, kept))
        for sheet, books in by_sheet.items():
            for at, one in enumerate(books):
                for other in [one] + books[at::9]:
                    self.check(sheet, *one, *other)
                    self.check(sheet, *other, *one)

    def test_a_book_and_its_essence(self):
        for sheet, book, kept in CASES:
            if kept:
                told = essence(sheet, book)
                self.assertIs(alike(sheet, book, told), True)
                self.assertIsNone(parting(sheet, book, told))


class NeedlessAndLean(unittest.TestCase):

    def check(self, sheet, book):
        spare = spare_told(sheet)
        wanted = [at for at, rule in enumerate(book) if spare(book[:at] + book[at + 1:], rule)]
        self.assertTrue(same(needless(sheet, book), wanted), (sheet, book))
        self.assertTrue(same(lean(sheet, book), left_out_one_by_one(book, spare)), (sheet, book))

    def test_the_document(self):
        self.assertEqual(needless(SHEET, BOOK), [])
        self.assertEqual(lean(SHEET, BOOK), [0, 1])
        more = BOOK + (("either", 0, 0, 2, 0), ("among", 1, (0, 2)))
        self.assertEqual(needless(SHEET, more), [0, 2, 3])
        self.assertEqual(lean(SHEET, more), [0, 1])
        self.assertEqual(lean(SHEET, more[::-1]), [1, 2])
        self.assertEqual(needless(SHEET, BOOK + BOOK), [0, 1, 2, 3])
        self.assertEqual(lean(SHEET, BOOK + BOOK), [0, 1])
        self.assertEqual(lean(SHEET, ()), [])
        self.assertEqual(needless(SHEET, ()), [])

    def test_a_rule_that_says_nothing(self):
        for book in ((("among", 0, (0, 1, 2)),), (("either", 0, 0, 1, 0),)):
            sheet = (3, 2) if book[0][0] == "among" else (1, 2)
            self.assertEqual(needless(sheet, book), [0])
            self.assertEqual(lean(sheet, book), [])

    def test_a_book_that_nothing_keeps(self):
        self.assertEqual(needless(SHEET, UNKEPT), [1])
        self.assertEqual(lean(SHEET, UNKEPT), [0, 2, 3])
        self.assertEqual(lean((2,), (("among", 0, ()), ("among", 0, (0,)), ("among", 0, ()))), [0])
        self.assertEqual(needless((2,), (("among", 0, ()), ("among", 0, (0,)), ("among", 0, ()))), [0, 1, 2])

    def test_cases(self):
        for sheet, book, _ in CASES:
            self.check(sheet, book)

    def test_rules_twice(self):
        for sheet, book, _ in FEW_CASES:
            self.check(sheet, book + book)


class Only(unittest.TestCase):

    def test_the_document(self):
        self.assertEqual(only(SHEET, BOOK, (0, 2)), ((3, 2), (("either", 0, 0, 1, 0),)))
        self.assertEqual(only(SHEET, BOOK, (1, 2)), ((3, 2), (("among", 0, (0, 2)), ("match", 0, 1, ((0, 1), (2, 0))))))
        self.assertEqual(only(SHEET, BOOK, (1,)), ((3,), (("among", 0, (0, 2)),)))
        self.assertEqual(only(SHEET, BOOK, (0,)), ((3,), ()))
        self.assertEqual(only(SHEET, BOOK, (0, 1, 2)), (SHEET, essence(SHEET, BOOK)))
        self.assertEqual(only(SHEET, UNKEPT, (1, 2)), ((3, 2), (("among", 0, ()),)))
        self.assertEqual(only(SHEET, UNKEPT, (2,)), ((2,), (("among", 0, ()),)))

    def test_cases_with_all_fields_kept(self):
        for sheet, book, kept in CASES:
            for size in range(1, len(sheet) + 1):
                for fields in combinations(range(len(sheet)), size):
                    told = only(sheet, book, fields)
                    left = tuple(sheet[field] for field in fields)
                    seen = sorted({tuple(filling[field] for field in fields) for filling in kept})
                    wanted = essence_told(left, seen) if kept else (("among", 0, ()),)
                    self.assertTrue(same(told, (left, wanted)), (sheet, book, fields, told))
                    self.assertEqual(keeping(*told), seen)


class Learned(unittest.TestCase):

    def check(self, sheet, seen):
        told = learned(sheet, seen)
        least = sorted(with_mixes(seen))
        self.assertTrue(same(told, essence_told(sheet, least)), (sheet, seen, told))
        self.assertIs(is_book(sheet, told), True)
        self.assertEqual(keeping(sheet, told), least, (sheet, seen, told))

    def test_some(self):
        self.assertEqual(learned(SHEET, [(0, 0, 1)]), (("among", 0, (0,)), ("among", 1, (0,)), ("among", 2, (1,))))
        self.assertEqual(learned(SHEET, [(0, 0, 1), (1, 2, 0), (2, 2, 0)]), (
            ("among", 1, (0, 2)), ("either", 0, 0, 1, 2), ("either", 0, 0, 2, 0),
            ("match", 1, 2, ((0, 1), (2, 0)))))
        self.assertEqual(learned((2, 2), [(0, 0), (1, 1)]), (("match", 0, 1, ((0, 0), (1, 1))),))
        self.assertEqual(learned((2, 2), [(0, 0), (1, 1), (0, 1)]), (("either", 0, 0, 1, 1),))
        self.assertEqual(learned((2, 2), [(0, 0), (1, 1), (0, 1), (1, 0)]), ())
        self.assertEqual(learned((3, 3), [(0, 1), (0, 2), (1, 0)]), (("among", 0, (0, 1)), ("either", 0, 0, 1, 0)))
        self.assertEqual(learned((3, 3), [(0, 0), (1, 1), (2, 2), (0, 1)]), ())

    def test_all_fillings_together_of_two_sheets(self):
        for sheet in ((4,), (3, 2), (2, 2, 2), (1, 3)):
            fillings = all_fillings(sheet)
            for size in range(1, len(fillings) + 1):
                for seen in combinations(fillings, size):
                    self.check(sheet, list(seen))

    def test_in_any_sequence_and_more_than_once(self):
        dice = random.Random(5)
        for sheet in ((2, 2), (3, 3), (3, 3, 2), (2, 3, 2, 2), (4, 4)):
            for _ in range(40):
                seen = [dice.choice(all_fillings(sheet)) for _ in range(dice.randint(1, 5))]
                self.check(sheet, seen)
                self.assertEqual(learned(sheet, seen[::-1] + seen), learned(sheet, seen))
        for seen in permutations([(0, 0, 1), (1, 2, 0), (2, 2, 0)]):
            self.check(SHEET, list(seen))

    def test_each_rule_that_holds_of_all_shown_follows(self):
        dice = random.Random(6)
        for sheet in ((3, 3), (2, 3, 2)):
            for _ in range(15):
                seen = dice.sample(all_fillings(sheet), dice.randint(1, 4))
                told = learned(sheet, seen)
                for rule in all_rules(sheet):
                    self.assertIs(follows(sheet, told, rule), all(rule_keeps(rule, one) for one in seen))

    def test_the_fillings_that_keep_a_book_tell_its_essence(self):
        for sheet, book, kept in CASES:
            if kept:
                self.assertEqual(learned(sheet, kept), essence(sheet, book))

    def test_the_list_is_left_as_it_is(self):
        seen = [(1, 2, 0), (0, 0, 1)]
        told = learned(SHEET, seen)
        self.assertEqual(seen, [(1, 2, 0), (0, 0, 1)])
        seen.clear()
        self.assertEqual(told, learned(SHEET, [(1, 2, 0), (0, 0, 1)]))


if __name__ == "__main__":
    unittest.main()
