"""[6] [11] Following and clashes, and F2 of [8]."""

import random
import unittest
from itertools import product

from eitherfields.following import clash, followed
from tests.helpers import (
    LARGEST, SMALL_SHEETS, all_choices, all_come, all_parts, all_rules, clashes, keeping, paper_fault, part_agrees,
    part_followed, some_books, some_part, some_rule)

SHEET = (3, 3, 2)
BOOK = (("either", 0, 0, 1, 2), ("match", 1, 2, ((0, 1), (2, 0))))
NARROW = BOOK + (("among", 1, (0,)),)


def turned(by, many=5):
    """The pairs of a match that takes each value to the one that many places on."""
    return tuple((value, (value + by) % many) for value in range(many))


def chain(length):
    """A book whose matches lead from each field to the next one, the last link first."""
    return tuple(("match", low, low + 1, turned(1)) for low in reversed(range(length)))


class Following(unittest.TestCase):

    def check_part(self, sheet, book, part):
        told = followed(sheet, book, part)
        self.assertEqual(told, part_followed(sheet, book, part), (sheet, book, part))
        if told is not None:
            self.assertIs(type(told), tuple)
            self.assertTrue(all(one is None or type(one) is int for one in told), told)

    def check_clash(self, sheet, book, field, value):
        paper = clash(sheet, book, field, value)
        if clashes(book, all_come(book, {(field, value)})):
            self.assertIsNotNone(paper, (sheet, book, field, value))
            self.assertIsNone(paper_fault(book, field, value, paper), (sheet, book, field, value, paper))
        else:
            self.assertIsNone(paper, (sheet, book, field, value))

    def check(self, sheet, book, parts):
        for part in parts:
            self.check_part(sheet, book, part)
        for field, value in all_choices(sheet):
            self.check_clash(sheet, book, field, value)


class Followed(Following):

    def test_the_document(self):
        self.assertEqual(followed(SHEET, BOOK, (1, None, None)), (1, 2, 0))
        self.assertEqual(followed(SHEET, BOOK, (2, None, None)), (2, 2, 0))
        self.assertEqual(followed(SHEET, BOOK, (0, None, None)), (0, None, None))
        self.assertIsNone(followed(SHEET, BOOK, (None, 1, None)))
        self.assertEqual(followed(SHEET, BOOK, (None, 0, None)), (0, 0, 1))
        self.assertEqual(followed(SHEET, BOOK, (None, None, 1)), (0, 0, 1))
        self.assertEqual(followed(SHEET, BOOK, (None, None, 0)), (None, 2, 0))
        self.assertIsNone(followed(SHEET, BOOK, (1, None, 1)))
        self.assertIsNone(followed(SHEET, NARROW, (1, None, None)))
        self.assertEqual(followed(SHEET, NARROW, (None, 0, None)), (0, 0, 1))

    def test_nothing_filled_in(self):
        for sheet in [*SMALL_SHEETS, LARGEST]:
            nothing = (None,) * len(sheet)
            self.assertEqual(followed(sheet, (), nothing), nothing)
            for book in some_books(1, sheet, 30, 6, tight=0.2):
                self.assertEqual(followed(sheet, book, nothing), nothing, book)
        self.assertEqual(followed((2, 2), (("among", 0, ()), ("match", 0, 1, ())), (None, None)), (None, None))

    def test_an_empty_book_forces_nothing(self):
        for sheet in SMALL_SHEETS:
            for part in all_parts(sheet):
                self.assertEqual(followed(sheet, (), part), part)

    def test_among_refuses_and_does_not_force(self):
        book = (("among", 0, (1,)), ("among", 1, ()))
        self.assertEqual(followed((2, 2), book, (1, None)), (1, None))
        self.assertIsNone(followed((2, 2), book, (0, None)))
        self.assertIsNone(followed((2, 2), book, (None, 0)))
        self.assertIsNone(followed((2, 2), book, (1, 1)))

    def test_match_in_both_directions(self):
        book = (("match", 0, 2, ((0, 2), (2, 1))),)
        for part, come in (((0, None, None), (0, None, 2)), ((2, None, None), (2, None, 1)),
                           ((None, 1, 2), (0, 1, 2)), ((None, None, 1), (2, None, 1)), ((0, 0, 2), (0, 0, 2)),
                           ((1, None, None), None), ((None, None, 0), None), ((0, None, 1), None),
                           ((2, 0, 2), None), ((None, 0, None), (None, 0, None))):
            self.assertEqual(followed((3, 3, 3), book, part), come, part)

    def test_either_in_both_directions(self):
        book = (("either", 0, 1, 2, 2),)
        for part, come in (((0, None, None), (0, None, 2)), ((2, 0, None), (2, 0, 2)),
                           ((1, None, None), (1, None, None)), ((None, None, 0), (1, None, 0)),
                           ((None, None, 1), (1, None, 1)), ((None, 1, 2), (None, 1, 2)), ((1, None, 0), (1, None, 0)),
                           ((0, None, 2), (0, None, 2)), ((1, 1, 2), (1, 1, 2)), ((0, None, 0), None),
                           ((2, 2, 1), None)):
            self.assertEqual(followed((3, 3, 3), book, part), come, part)

    def test_two_values_of_one_field(self):
        book = (("either", 0, 0, 1, 0), ("either", 0, 0, 1, 1))
        self.assertIsNone(followed((2, 2), book, (1, None)))
        self.assertEqual(followed((2, 2), book, (0, None)), (0, None))
        self.assertIsNone(followed((2, 2, 2), (("match", 0, 1, ((0, 0), (1, 1))),), (0, 1, None)))

    def test_what_is_forced_is_refused(self):
        book = (("among", 2, (0,)), ("match", 1, 2, ((0, 1), (1, 0))), ("either", 0, 0, 1, 0))
        self.assertIsNone(followed((2, 2, 2), book, (1, None, None)))
        self.assertEqual(followed((2, 2, 2), book, (None, 1, None)), (0, 1, 0))

    def test_a_chain_through_all_fields(self):
        for book in (chain(7), chain(7)[::-1]):
            self.assertEqual(followed(LARGEST, book, (0,) + (None,) * 7), (0, 1, 2, 3, 4, 0, 1, 2))
            self.assertEqual(followed(LARGEST, book, (None,) * 7 + (2,)), (0, 1, 2, 3, 4, 0, 1, 2))
            self.assertEqual(followed(LARGEST, book, (None, None, None, 3) + (None,) * 4), (0, 1, 2, 3, 4, 0, 1, 2))
            self.assertIsNone(followed(LARGEST, book, (0,) + (None,) * 6 + (3,)))
            self.assertIsNone(followed(LARGEST, book + (("among", 7, (0, 1, 3, 4)),), (0,) + (None,) * 7))
            self.assertEqual(followed(LARGEST, book[:3] + book[4:], (0,) + (None,) * 7)[:4], (0, 1, 2, 3))

    def test_a_chain_of_either_rules(self):
        book = tuple(("either", low, 0, low + 1, 1) for low in range(7))
        for one in (book, book[::-1]):
            self.assertEqual(followed((2,) * 8, one, (1,) + (None,) * 7), (1,) * 8)
            self.assertEqual(followed((2,) * 8, one, (None,) * 7 + (0,)), (0,) * 8)
            self.assertEqual(followed((2,) * 8, one, (0,) + (None,) * 7), (0,) + (None,) * 7)

    def test_a_circle(self):
        right = (("match", 0, 1, turned(1)), ("match", 1, 2, turned(2)), ("match", 0, 2, turned(3)))
        for value in range(5):
            self.assertEqual(followed((5, 5, 5), right, (value, None, None)), (value, (value + 1) % 5, (value + 3) % 5))
        wrong = right[:2] + (("match", 0, 2, turned(4)),)
        for field, value in all_choices((5, 5, 5)):
            part = tuple(value if one == field else None for one in range(3))
            self.assertIsNone(followed((5, 5, 5), wrong, part))

    def test_rules_twice(self):
        for book in (BOOK, NARROW):
            for part in all_parts(SHEET):
                once = followed(SHEET, book, part)
                for more in (book + book, book[::-1] + book, book * 4):
                    self.assertEqual(followed(SHEET, more, part), once, part)

    def test_a_book_that_is_not_keepable(self):
        book = (("among", 0, ()), ("either", 1, 0, 2, 1))
        self.assertEqual(followed((2, 2, 2), book, (None, 1, None)), (None, 1, 1))
        self.assertIsNone(followed((2, 2, 2), book, (0, 1, None)))

    def test_each_book_of_two_rules(self):
        sheet = (2, 2, 2)
        parts = [part for part in all_parts(sheet) if part.count(None) > 0]
        rules = all_rules(sheet)
        for at, first in enumerate(rules):
            for second in rules[at:]:
                self.check(sheet, (first, second), parts[::3])

    def test_each_rule_alone_over_each_part(self):
        for sheet in ((3, 2), (2, 3, 2), (2, 2, 2)):
            for rule in all_rules(sheet):
                self.check(sheet, (rule,), all_parts(sheet))

    def test_books_of_small_sheets(self):
        for seed, sheet in enumerate([*SMALL_SHEETS, SHEET, (2, 2, 2, 2), (3, 1, 4)]):
            for book in some_books(seed, sheet, 50, 6):
                self.check(sheet, book, all_parts(sheet))

    def test_the_largest(self):
        dice = random.Random(3)
        told = []
        for size in (12, 20, 21, 40):
            for tight in (0.8, 0.95, 1):
                for _ in range(4):
                    book = tuple(some_rule(dice, LARGEST, tight) for _ in range(size))
                    parts = [some_part(dice, LARGEST, fill) for fill in (0, 0.1, 0.1, 0.2, 0.3, 0.5, 1)]
                    self.check(LARGEST, book, parts)
                    told.append(followed(LARGEST, book, parts[2]))
        # Both outcomes are there, so that neither is tested by chance alone.
        self.assertTrue(8 < told.count(None) < 40, told.count(None))


class Clash(Following):

    def test_the_document(self):
        self.assertEqual([one for one in all_choices(SHEET) if clash(SHEET, BOOK, *one) is not None], [(1, 1)])
        self.assertEqual([one for one in all_choices(SHEET) if clash(SHEET, NARROW, *one) is None],
                         [(0, 0), (1, 0), (2, 1)])
        for book in (BOOK, NARROW):
            self.check(SHEET, book, [])

    def test_a_value_that_is_refused_itself(self):
        for rule in (("among", 1, (0, 2)), ("match", 0, 1, ((1, 2),)), ("match", 1, 2, ((0, 1),))):
            steps, last = clash((3, 3, 2), (("among", 0, (1,)), rule), 1, 1)
            self.assertEqual(last, 1)
            self.check((3, 3, 2), (rule, rule), [])
        self.assertEqual(clash((1,), (("among", 0, ()),), 0, 0)[1], 0)

    def test_two_values_of_one_field(self):
        book = (("either", 0, 0, 1, 0), ("either", 0, 0, 1, 1))
        steps, last = clash((2, 2), book, 0, 1)
        self.assertIsNone(last)
        self.assertIn((0, 1, 0), steps)
        self.assertIn((1, 1, 1), steps)
        self.assertIsNone(clash((2, 2), book, 0, 0))
        self.check((2, 2), book, [])

    def test_another_value_of_the_field_that_was_asked_about(self):
        book = (("either", 0, 0, 1, 0), ("either", 0, 1, 1, 0))
        paper = clash((2, 2), book, 1, 1)
        self.assertIsNotNone(paper)
        self.assertIsNone(paper_fault(book, 1, 1, paper), paper)
        self.assertIsNone(paper[1])
        self.assertIsNone(clash((2, 2), book, 1, 0))
        back = (("match", 0, 1, ((0, 0), (1, 1))), ("match", 0, 1, ((0, 1), (1, 0))))
        for field, value in all_choices((2, 2)):
            self.assertIsNone(paper_fault(back, field, value, clash((2, 2), back, field, value)))

    def test_a_long_way_to_the_clash(self):
        for book in (chain(7), chain(7)[::-1]):
            for more, last in ((("among", 7, (0, 1, 3, 4)), 7), (("match", 0, 7, turned(1)), None)):
                longer = book + (more,)
                paper = clash(LARGEST, longer, 0, 0)
                self.assertIsNotNone(paper)
                self.assertIsNone(paper_fault(longer, 0, 0, paper), paper)
                if last is not None:
                    self.assertEqual(paper[1], last)
                    self.assertGreaterEqual(len(paper[0]), 7)
            self.check(LARGEST, book, [])

    def test_an_empty_book(self):
        for sheet in [*SMALL_SHEETS, LARGEST]:
            for field, value in all_choices(sheet):
                self.assertIsNone(clash(sheet, (), field, value))

    def test_all_rules_at_once(self):
        for sheet in ((2, 3), (2, 2, 2)):
            self.check(sheet, tuple(all_rules(sheet)), [])

    def test_it_clashes_exactly_where_the_part_of_this_value_does(self):
        for seed, sheet in enumerate(SMALL_SHEETS):
            for book in some_books(seed + 20, sheet, 40, 7):
                for field, value in all_choices(sheet):
                    part = tuple(value if one == field else None for one in range(len(sheet)))
                    self.assertIs(clash(sheet, book, field, value) is None, followed(sheet, book, part) is not None)


class Facts(unittest.TestCase):

    def books(self):
        for seed, sheet in enumerate([(3,), (2, 3), (3, 3), (2, 2, 2), (2, 3, 2), (1, 3, 2), (2, 2, 2, 2)]):
            for book in some_books(seed + 40, sheet, 120, 7, tight=0.85):
                yield sheet, book
        for rules in product(all_rules((2, 2)), repeat=2):
            yield (2, 2), rules

    def test_a_book_is_keepable_exactly_if_no_field_has_only_values_that_clash(self):
        told = {True: 0, False: 0}
        for sheet, book in self.books():
            keepable = keeping(sheet, book) != []
            left = all(any(clash(sheet, book, field, value) is None for value in range(many))
                       for field, many in enumerate(sheet))
            self.assertIs(left, keepable, (sheet, book))
            told[keepable] += 1
        self.assertTrue(min(told.values()) > 100, told)

    def test_a_part_of_a_keepable_book_can_be_finished_exactly_if_it_does_not_clash(self):
        for sheet, book in self.books():
            kept = keeping(sheet, book)
            for part in all_parts(sheet) if kept else []:
                finishable = any(part_agrees(filling, part) for filling in kept)
                self.assertIs(followed(sheet, book, part) is not None, finishable, (sheet, book, part))

    def test_each_further_value_that_does_not_clash_can_be_finished(self):
        for sheet, book in self.books():
            kept = keeping(sheet, book)
            if not kept:
                continue
            for field, value in all_choices(sheet):
                can_be = any(filling[field] == value for filling in kept)
                self.assertIs(clash(sheet, book, field, value) is None, can_be, (sheet, book, field, value))

    def test_all_that_has_come_is_in_each_filling_that_finishes_the_part(self):
        for sheet, book in self.books():
            kept = keeping(sheet, book)
            for part in all_parts(sheet)[::3]:
                come = followed(sheet, book, part)
                for filling in kept:
                    if part_agrees(filling, part):
                        self.assertTrue(part_agrees(filling, come), (sheet, book, part, filling))


if __name__ == "__main__":
    unittest.main()
