"""[12] Keeping, and F2 of [8]."""

import unittest
from itertools import islice

from eitherfields.errors import InvalidBook, InvalidChoice, InvalidSheet
from eitherfields.keeping import core, fillings, finished, keepable, paper
from tests.helpers import (
    LARGEST, all_come, all_fillings, all_parts, books_of_two_rules, cases, clashes, keeping, left_out_one_by_one,
    paper_fault, part_agrees)

SHEET = (3, 3, 2)
BOOK = (("either", 0, 0, 1, 2), ("match", 1, 2, ((0, 1), (2, 0))))
NARROW = BOOK + (("among", 1, (0,)),)
UNKEPT = NARROW + (("among", 0, (1, 2)),)
CASES = cases(1) + books_of_two_rules((2, 2))


class Cases(unittest.TestCase):

    def test_many_one_and_no_fillings_are_among_the_cases(self):
        sizes = [len(kept) for _, _, kept in CASES]
        self.assertGreater(sizes.count(0), 100)
        self.assertGreater(sizes.count(1), 100)
        self.assertGreater(len([size for size in sizes if size > 1]), 100)


class Keepable(unittest.TestCase):

    def test_the_document(self):
        self.assertIs(keepable(SHEET, BOOK), True)
        self.assertIs(keepable(SHEET, NARROW), True)
        self.assertIs(keepable(SHEET, UNKEPT), False)
        self.assertIs(keepable(SHEET, ()), True)

    def test_cases(self):
        for sheet, book, kept in CASES:
            self.assertIs(keepable(sheet, book), kept != [], (sheet, book))

    def test_each_book_of_two_rules(self):
        for sheet, book, kept in books_of_two_rules((2, 3)) + books_of_two_rules((1, 2)):
            self.assertIs(keepable(sheet, book), kept != [], (sheet, book))

    def test_rules_twice_and_in_another_sequence(self):
        for sheet, book, kept in CASES[::3]:
            for more in (book + book, book[::-1], book[::-1] + book):
                self.assertIs(keepable(sheet, more), kept != [], (sheet, more))

    def test_empty_among_rules_and_matches(self):
        for sheet in ((1,), (2, 2), (3, 1, 2)):
            for field in range(len(sheet)):
                self.assertIs(keepable(sheet, (("among", field, ()),)), False)
                self.assertIs(keepable(sheet, (("among", field, (0,)),)), True)
        for low, high in ((0, 1), (0, 2), (1, 2)):
            self.assertIs(keepable((3, 1, 2), (("match", low, high, ()),)), False)
            self.assertIs(keepable((3, 1, 2), (("match", low, high, ((0, 0),)),)), True)


class Paper(unittest.TestCase):

    def check(self, sheet, book, kept):
        told = paper(sheet, book)
        if kept:
            self.assertIsNone(told, (sheet, book))
            return
        self.assertIs(type(told), tuple)
        field, told_clashes = told
        bare = [one for one, many in enumerate(sheet)
                if all(clashes(book, all_come(book, {(one, value)})) for value in range(many))]
        self.assertEqual(field, bare[0], (sheet, book))
        self.assertIs(type(field), int)
        self.assertIs(type(told_clashes), tuple)
        self.assertEqual(len(told_clashes), sheet[field])
        for value, one in enumerate(told_clashes):
            self.assertIsNone(paper_fault(book, field, value, one), (sheet, book, field, value, one))

    def test_the_document(self):
        self.assertIsNone(paper(SHEET, BOOK))
        self.assertIsNone(paper(SHEET, NARROW))
        self.check(SHEET, UNKEPT, [])
        self.assertEqual(paper((1,), (("among", 0, ()),)), (0, (((), 0),)))

    def test_cases(self):
        for sheet, book, kept in CASES:
            self.check(sheet, book, kept)

    def test_each_book_of_two_rules(self):
        for sheet, book, kept in books_of_two_rules((2, 3)):
            self.check(sheet, book, kept)

    def test_the_least_field_of_several(self):
        self.assertEqual(paper((2, 2, 2), (("among", 2, ()), ("among", 1, ()))), (1, (((), 1), ((), 1))))
        self.assertEqual(paper((2, 2, 2), (("among", 2, ()),))[0], 2)
        self.assertEqual(paper((2, 2, 2), (("match", 1, 2, ()),))[0], 1)

    def test_the_clashes_stand_in_the_sequence_of_the_values(self):
        book = (("among", 0, (1, 2)), ("among", 0, (0, 2)), ("among", 0, (0, 1)))
        self.assertEqual(paper((3,), book), (0, (((), 0), ((), 1), ((), 2))))
        self.assertEqual(paper((3,), book[::-1]), (0, (((), 2), ((), 1), ((), 0))))


class Core(unittest.TestCase):

    def check(self, sheet, book, kept):
        told = core(sheet, book)
        if kept:
            self.assertIsNone(told, (sheet, book))
            return
        wanted = left_out_one_by_one(book, lambda rest, rule: keeping(sheet, rest) == [])
        self.assertIs(type(told), list)
        self.assertEqual(told, wanted, (sheet, book))

    def test_the_document(self):
        self.assertIsNone(core(SHEET, BOOK))
        self.assertEqual(core(SHEET, UNKEPT), [0, 2, 3])
        self.assertEqual(core((2,), (("among", 0, ()), ("among", 0, ()))), [0])
        self.assertEqual(core((2,), (("among", 0, (0,)), ("among", 0, ()))), [1])
        self.assertEqual(core((2,), (("among", 0, (0,)), ("among", 0, (1,)), ("among", 0, ()))), [0, 1])
        self.assertEqual(core((2, 2), (("among", 1, (0,)), ("match", 0, 1, ()), ("among", 1, (1,)))), [1])

    def test_cases(self):
        for sheet, book, kept in CASES:
            self.check(sheet, book, kept)

    def test_rules_twice(self):
        for sheet, book, kept in CASES[::3]:
            self.check(sheet, book + book, kept)
            self.check(sheet, book[::-1] + book, kept)


class Finished(unittest.TestCase):

    def check(self, sheet, book, kept, part):
        agreeing = [filling for filling in kept if part_agrees(filling, part)]
        told = finished(sheet, book, part)
        self.assertEqual(told, agreeing[0] if agreeing else None, (sheet, book, part))
        self.assertTrue(told is None or type(told) is tuple)

    def test_the_document(self):
        self.assertEqual(finished(SHEET, BOOK), (0, 0, 1))
        self.assertEqual(finished(SHEET, BOOK, (None, 2, None)), (0, 2, 0))
        self.assertEqual(finished(SHEET, BOOK, (1, None, None)), (1, 2, 0))
        self.assertEqual(finished(SHEET, BOOK, (1, 2, 0)), (1, 2, 0))
        self.assertIsNone(finished(SHEET, BOOK, (None, 1, None)))
        self.assertIsNone(finished(SHEET, BOOK, (1, 0, 1)))
        self.assertEqual(finished(SHEET, NARROW), (0, 0, 1))
        self.assertIsNone(finished(SHEET, NARROW, (1, None, None)))
        self.assertIsNone(finished(SHEET, UNKEPT))

    def test_cases_with_all_parts(self):
        for sheet, book, kept in CASES:
            for part in all_parts(sheet):
                self.check(sheet, book, kept, part)

    def test_no_part(self):
        for sheet, book, kept in CASES:
            least = kept[0] if kept else None
            self.assertEqual(finished(sheet, book), least)
            self.assertEqual(finished(sheet, book, None), least)
            self.assertEqual(finished(sheet, book, part=None), least)
            self.assertEqual(finished(sheet, book, part=(None,) * len(sheet)), least)

    def test_the_least_one_is_not_the_least_in_the_last_field(self):
        book = (("either", 0, 1, 1, 1),)
        self.assertEqual(finished((2, 2), book), (0, 1))
        self.assertEqual(finished((2, 2), book, part=(None, 0)), (1, 0))

    def test_a_book_that_nothing_keeps_though_the_part_does_not_clash(self):
        book = (("among", 2, ()),)
        for part in all_parts((2, 2, 2)):
            self.assertIsNone(finished((2, 2, 2), book, part))


class Fillings(unittest.TestCase):

    def test_the_document(self):
        self.assertEqual(list(fillings(SHEET, BOOK)), [(0, 0, 1), (0, 2, 0), (1, 2, 0), (2, 2, 0)])
        self.assertEqual(list(fillings(SHEET, NARROW)), [(0, 0, 1)])
        self.assertEqual(list(fillings(SHEET, UNKEPT)), [])

    def test_cases(self):
        for sheet, book, kept in CASES:
            told = list(fillings(sheet, book))
            self.assertEqual(told, kept, (sheet, book))
            self.assertTrue(all(type(filling) is tuple for filling in told))

    def test_at_most(self):
        for sheet, book, kept in CASES[::2]:
            for most in (1, 2, 3, len(kept), len(kept) + 1, 1000):
                if most > 0:
                    self.assertEqual(list(fillings(sheet, book, most=most)), kept[:most], (sheet, book, most))

    def test_a_hundred_if_it_is_left_out(self):
        sheet = (5, 5, 5)
        everything = all_fillings(sheet)
        self.assertEqual(list(fillings(sheet, ())), everything[:100])
        for most in (1, 99, 100, 101, 124, 125, 126, 1000):
            self.assertEqual(list(fillings(sheet, (), most=most)), everything[:most])
        self.assertEqual(list(fillings((5,) * 4 + (1,), (), most=1000)), all_fillings((5,) * 4 + (1,)))
        self.assertEqual(len(list(fillings(LARGEST, (), most=1000))), 1000)
        book = (("either", 0, 3, 2, 1),)
        self.assertEqual(list(fillings(sheet, book)), keeping(sheet, book)[:100])

    def test_an_iteration_that_is_left_early(self):
        for _ in range(2):
            found = []
            for filling in fillings(SHEET, BOOK):
                found.append(filling)
                if len(found) == 2:
                    break
            self.assertEqual(found, [(0, 0, 1), (0, 2, 0)])
        self.assertEqual(len(list(fillings(SHEET, BOOK))), 4)

    def test_one_inside_of_another(self):
        found = [(one, other) for one in fillings(SHEET, BOOK) for other in fillings(SHEET, BOOK, most=3)]
        kept = keeping(SHEET, BOOK)
        self.assertEqual(found, [(one, other) for one in kept for other in kept[:3]])
        found = [(one, other) for one in fillings(SHEET, BOOK) for other in fillings((2, 2), (("among", 0, (1,)),))]
        self.assertEqual(found, [(one, other) for one in kept for other in [(1, 0), (1, 1)]])

    def test_two_side_by_side(self):
        one, other = iter(fillings(SHEET, BOOK)), iter(fillings(SHEET, BOOK))
        kept = keeping(SHEET, BOOK)
        self.assertEqual(list(islice(one, 3)), kept[:3])
        self.assertEqual(list(other), kept)
        self.assertEqual(list(one), kept[3:])

    def test_errors_by_the_call_or_at_the_first_step(self):
        for arguments, most, error in ((((0,), ()), 1, InvalidSheet), (((2,), []), 1, InvalidBook),
                                       (((2,), ()), 0, InvalidChoice), (((2,), ()), 1001, InvalidChoice),
                                       (((2,), ()), True, InvalidChoice), (((2,), ()), None, InvalidChoice),
                                       (((2,), None), 0, InvalidBook), (((6,), None), 0, InvalidSheet)):
            with self.assertRaises(error):
                next(iter(fillings(*arguments, most=most)))

    def test_most_goes_by_name_only(self):
        with self.assertRaises(TypeError):
            list(fillings(SHEET, BOOK, 3))


if __name__ == "__main__":
    unittest.main()
