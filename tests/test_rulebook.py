"""[14] RuleBook."""

import inspect
import unittest
from itertools import product

from eitherfields import books
from eitherfields.books import RuleBook, lean, learned, only
from eitherfields.errors import (
    FieldError, InvalidBook, InvalidChoice, InvalidEntry, InvalidField, InvalidIndex, InvalidRule, InvalidSheet)
from eitherfields.pairs import essence
from tests.helpers import (
    all_choices, all_fillings, all_parts, any_values, books_of_two_rules, cases, copied, rule_keeps, same)
from tests.wrong import BOOK, ERRORS, RULE, SHEET, few_wrong_values, wrong_values

UNKEPT = BOOK + (("among", 1, ()),)
SEEN = [(0, 0, 1), (1, 2, 0), (2, 2, 0)]
CASES = cases(5, many_books=8) + books_of_two_rules((2, 2))[::4]
METHODS = ["__init__", "__len__", "__getitem__", "__contains__", "__bool__", "__and__", "__le__", "__lt__", "__eq__",
           "at", "only", "lean", "of", "told_by", "sheet", "rules"]

# Each way to call, its parameters with a right argument each, and what may be passed by name.
CALLS = [
    ("RuleBook", lambda sheet, rule: RuleBook(sheet, rule), [("sheet", SHEET), ("rule", RULE)]),
    ("of", lambda **more: RuleBook.of(**more), [("sheet", SHEET), ("book", BOOK)]),
    ("told_by", lambda **more: RuleBook.told_by(**more), [("sheet", SHEET), ("seen", SEEN)]),
    ("at", lambda **more: RuleBook(SHEET, *BOOK).at(**more), [("field", 1), ("entry", 0)]),
    ("only", lambda **more: RuleBook(SHEET, *BOOK).only(**more), [("kept_fields", (0, 2))]),
]


def books_by_sheet():
    by_sheet = {}
    for sheet, book, kept in CASES:
        by_sheet.setdefault(sheet, []).append((RuleBook(sheet, *book), kept))
    return by_sheet


def what_it_is(book):
    return book.sheet, book.rules


class Made(unittest.TestCase):

    def test_by_the_class(self):
        for sheet, rules, _ in CASES:
            book = RuleBook(sheet, *rules)
            self.assertIs(type(book), RuleBook)
            self.assertTrue(same(what_it_is(book), (sheet, rules)))
        self.assertEqual(what_it_is(RuleBook(sheet=(2, 2))), ((2, 2), ()))

    def test_by_of(self):
        for sheet, rules, _ in CASES:
            book = RuleBook.of(sheet, rules)
            self.assertIs(type(book), RuleBook)
            self.assertTrue(same(what_it_is(book), (sheet, rules)))
        self.assertEqual(what_it_is(RuleBook.of(book=BOOK, sheet=SHEET)), (SHEET, BOOK))

    def test_by_told_by(self):
        book = RuleBook.told_by(SHEET, SEEN)
        self.assertIs(type(book), RuleBook)
        self.assertEqual(what_it_is(book), (SHEET, learned(SHEET, SEEN)))
        self.assertEqual(what_it_is(RuleBook.told_by(seen=SEEN, sheet=SHEET)), what_it_is(book))
        for sheet, rules, kept in CASES:
            if kept:
                self.assertEqual(RuleBook.told_by(sheet, kept).rules, essence(sheet, rules))

    def test_a_list_that_was_passed_may_be_cleared_later(self):
        seen = [list(SEEN)[0], SEEN[1]]
        book = RuleBook.told_by(SHEET, seen)
        before = what_it_is(book)
        seen.clear()
        self.assertEqual(what_it_is(book), before)
        self.assertIn(SEEN[0], book)
        self.assertEqual(before, what_it_is(RuleBook.told_by(SHEET, SEEN[:2])))

    def test_by_and(self):
        for sheet, found in books_by_sheet().items():
            for (one, one_kept), (other, other_kept) in zip(found, found[1:] + found[:1]):
                both = one & other
                self.assertIs(type(both), RuleBook)
                self.assertEqual(what_it_is(both), (sheet, one.rules + other.rules))
                for filling in all_fillings(sheet):
                    self.assertIs(filling in both, filling in one_kept and filling in other_kept)

    def test_the_interface_stands_in_the_class(self):
        self.assertEqual(RuleBook.__module__, books.__name__)
        for name in METHODS:
            self.assertIn(name, vars(RuleBook), name)
        for name in ("sheet", "rules"):
            self.assertIsInstance(vars(RuleBook)[name], property)
        for name in ("of", "told_by"):
            self.assertIsInstance(vars(RuleBook)[name], staticmethod)
        for method, names in ((RuleBook.of, ["sheet", "book"]), (RuleBook.told_by, ["sheet", "seen"]),
                              (RuleBook.at, ["self", "field", "entry"]), (RuleBook.only, ["self", "kept_fields"]),
                              (RuleBook.lean, ["self"]), (RuleBook, ["sheet", "rules"])):
            self.assertEqual(list(inspect.signature(method).parameters), names)


class Rows(unittest.TestCase):

    def test_len_and_rules(self):
        for sheet, rules, _ in CASES:
            book = RuleBook(sheet, *rules)
            self.assertEqual(len(book), len(rules))
            self.assertTrue(same([book[at] for at in range(len(book))], list(rules)))

    def test_any_other_index(self):
        for rules in ((), BOOK[:1], BOOK, BOOK * 2):
            book = RuleBook(SHEET, *rules)
            wrong = [value for value in any_values() if type(value) is not int or not 0 <= value < len(rules)]
            for value in wrong + [len(rules), -1, -len(rules) - 1, slice(0, 1), slice(None), book, (0,), RULE]:
                with self.assertRaises(FieldError) as caught:
                    book[value]
                self.assertIs(type(caught.exception), InvalidIndex, value)

    def test_it_is_not_iterated_over_and_no_key(self):
        book = RuleBook(SHEET, *BOOK)
        for deed in (list, iter, tuple, lambda value: [*value], lambda value: {value: 1}, lambda value: {value}, hash):
            with self.assertRaises(TypeError):
                deed(book)

    def test_its_properties_are_not_assigned(self):
        book = RuleBook(SHEET, *BOOK)
        for name in ("sheet", "rules"):
            with self.assertRaises(AttributeError):
                setattr(book, name, ())
        with self.assertRaises(TypeError):
            book[0] = RULE


class Contains(unittest.TestCase):

    def test_fillings(self):
        for sheet, rules, kept in CASES:
            book = RuleBook(sheet, *rules)
            for filling in all_fillings(sheet):
                self.assertIs(filling in book, filling in kept, (sheet, rules, filling))

    def test_any_other_value(self):
        for rules in ((), BOOK, UNKEPT):
            book = RuleBook(SHEET, *rules)
            others = [part for part in all_parts(SHEET) if None in part] + [[0, 0, 1], ((0, 0, 1),), (0, 0), (0, 2, 0, 0)]
            for value in any_values() + others + [(False, 0, 1), (0, 0, True), (3, 0, 1), (0, 0, 2), book, (book,) * 3,
                                                  "001", RULE, *BOOK]:
                self.assertIs(value in book, False, value)


class Truth(unittest.TestCase):

    def test_bool(self):
        for sheet, rules, kept in CASES:
            self.assertIs(bool(RuleBook(sheet, *rules)), kept != [], (sheet, rules))
        self.assertIs(bool(RuleBook((1,))), True)


class Order(unittest.TestCase):

    def check(self, one, one_kept, other, other_kept):
        one_set, other_set = set(one_kept), set(other_kept)
        seen = (what_it_is(one), what_it_is(other))
        self.assertIs(one <= other, one_set <= other_set, seen)
        self.assertIs(one < other, one_set < other_set, seen)
        self.assertIs(one == other, one_set == other_set, seen)
        self.assertIs(one != other, one_set != other_set, seen)

    def test_books_of_the_same_sheet(self):
        told = 0
        for found in books_by_sheet().values():
            for at, one in enumerate(found):
                for other in [one] + found[at::7]:
                    self.check(*one, *other)
                    self.check(*other, *one)
                    told += one[0] < other[0]
        self.assertGreater(told, 300)

    def test_the_document(self):
        wide, narrow = RuleBook(SHEET, *BOOK[:2]), RuleBook(SHEET, *BOOK[:2], ("among", 1, (0,)))
        self.assertIs(narrow <= wide and narrow < wide, True)
        self.assertIs(wide <= narrow or wide < narrow or wide == narrow, False)
        self.assertIs(wide <= wide and wide == RuleBook(SHEET, *BOOK[::-1]), True)
        self.assertIs(wide < RuleBook(SHEET, *BOOK), False)
        self.assertIs(narrow == RuleBook.told_by(SHEET, [(0, 0, 1)]), True)
        self.assertIs(RuleBook(SHEET, *UNKEPT) < narrow, True)
        self.assertIs(RuleBook(SHEET, *UNKEPT) == RuleBook(SHEET, ("among", 2, ())), True)

    def test_books_of_other_sheets_and_any_other_value_are_unequal(self):
        for rules in ((), BOOK, UNKEPT):
            book = RuleBook(SHEET, *rules)
            others = [RuleBook((3, 3, 3), *rules), RuleBook((4, 3, 2), *rules), RuleBook((3, 3, 2, 1), *rules), rules,
                      SHEET, (SHEET, rules), list(rules), len(rules)]
            for value in any_values() + others:
                self.assertIs(book == value, False, value)
                self.assertIs(value == book, False, value)
                self.assertIs(book != value, True, value)
                self.assertIs(value != book, True, value)

    def test_books_of_other_sheets_and_any_other_value_are_not_joined_or_ordered(self):
        for rules in ((), BOOK, UNKEPT):
            book = RuleBook(SHEET, *rules)
            others = [RuleBook((3, 3, 3), *rules), RuleBook((4, 3, 2), *rules), RuleBook((3, 3, 2, 1), *rules), rules,
                      SHEET, (SHEET, rules), list(rules)]
            for value in any_values() + others:
                for deed in (lambda one, other: one & other, lambda one, other: one <= other,
                             lambda one, other: one < other):
                    with self.assertRaises(FieldError) as caught:
                        deed(book, value)
                    self.assertIs(type(caught.exception), InvalidBook, value)


class NewBooks(unittest.TestCase):

    def test_at(self):
        for sheet, rules, kept in CASES:
            book = RuleBook(sheet, *rules)
            for field, value in all_choices(sheet):
                told = book.at(field, value)
                self.assertIs(type(told), RuleBook)
                self.assertTrue(same(what_it_is(told), (sheet, rules + (("among", field, (value,)),))))
                left = [filling for filling in kept if filling[field] == value]
                self.assertEqual([filling for filling in all_fillings(sheet) if filling in told], left)
        self.assertEqual(what_it_is(RuleBook(SHEET).at(entry=1, field=2)), (SHEET, (("among", 2, (1,)),)))

    def test_only(self):
        for sheet, rules, _ in CASES:
            book = RuleBook(sheet, *rules)
            for fields in ((0,), (len(sheet) - 1,), tuple(range(len(sheet))), tuple(range(0, len(sheet), 2))):
                told = book.only(fields)
                self.assertIs(type(told), RuleBook)
                self.assertTrue(same(what_it_is(told), only(sheet, rules, fields)))
        told = RuleBook(SHEET, *BOOK[:2]).only(kept_fields=(0, 2))
        self.assertEqual(what_it_is(told), ((3, 2), (("either", 0, 0, 1, 0),)))
        self.assertEqual(what_it_is(RuleBook(SHEET, *UNKEPT).only((1, 2))), ((3, 2), (("among", 0, ()),)))

    def test_lean(self):
        for sheet, rules, _ in CASES:
            told = RuleBook(sheet, *rules).lean()
            self.assertIs(type(told), RuleBook)
            self.assertTrue(same(what_it_is(told), (sheet, tuple(rules[at] for at in lean(sheet, rules)))))
            self.assertIs(told == RuleBook(sheet, *rules), True)

    def test_none_of_this_changes_a_book(self):
        for rules in ((), BOOK, UNKEPT, BOOK * 2):
            book, partner = RuleBook(SHEET, *rules), RuleBook(SHEET, ("among", 0, (1,)))
            before, partner_before = copied(what_it_is(book)), copied(what_it_is(partner))
            for deed in (lambda: book & partner, lambda: partner & book, lambda: book <= partner,
                         lambda: book < partner, lambda: book == partner, lambda: book != partner, lambda: bool(book),
                         lambda: len(book), lambda: (0, 0, 1) in book, lambda: book.at(0, 1), lambda: book.only((1,)),
                         lambda: book.lean(), lambda: book.sheet, lambda: book.rules):
                first = deed()
                self.assertTrue(same(what_it_is(book), before))
                self.assertTrue(same(what_it_is(partner), partner_before))
                self.assertEqual(deed(), first)
            for deed in (lambda: book & 1, lambda: book < None, lambda: book[99], lambda: book.at(9, 0),
                         lambda: book.only(()), lambda: book.at(0, 9)):
                with self.assertRaises(FieldError):
                    deed()
                self.assertTrue(same(what_it_is(book), before))


class Errors(unittest.TestCase):

    def check(self, call, arguments, error):
        with self.assertRaises(FieldError) as caught:
            call(**arguments)
        self.assertIs(type(caught.exception), error, arguments)

    def test_each_wrong_parameter(self):
        for _, call, parameters in CALLS:
            for name, _ in parameters:
                for wrong in wrong_values(name):
                    self.check(call, {**dict(parameters), name: wrong}, ERRORS[name])

    def test_the_first_wrong_one_of_several(self):
        for _, call, parameters in CALLS:
            names = [name for name, _ in parameters]
            for row in product(*[[value] + few_wrong_values(name) for name, value in parameters]):
                wrong = [name for (name, right), value in zip(parameters, row) if not same(right, value)]
                if wrong:
                    self.check(call, dict(zip(names, row)), ERRORS[wrong[0]])

    def test_each_rule_of_the_class(self):
        for at in range(4):
            for wrong in [None, list(RULE), (), BOOK, ("among", 3, ()), ("among", 0, (True,))]:
                rules = BOOK[:at] + (wrong,) + BOOK[at:]
                with self.assertRaises(InvalidRule):
                    RuleBook(SHEET, *rules)
                with self.assertRaises(InvalidSheet):
                    RuleBook(list(SHEET), *rules)
                with self.assertRaises(InvalidBook):
                    RuleBook.of(SHEET, rules)

    def test_what_is_right_for_another_sheet_only(self):
        book = RuleBook((2, 3))
        for deed, error in ((lambda: RuleBook((2, 3), ("among", 0, (2,))), InvalidRule),
                            (lambda: RuleBook.of((2, 3), (("among", 0, (2,)),)), InvalidBook),
                            (lambda: RuleBook.told_by((2, 3), [(2, 2)]), InvalidChoice),
                            (lambda: book.at(2, 0), InvalidField), (lambda: book.at(0, 2), InvalidEntry),
                            (lambda: book.only((0, 2)), InvalidChoice)):
            with self.assertRaises(error):
                deed()
        self.assertEqual(book.at(1, 2).rules, (("among", 1, (2,)),))

    def test_one_too_few_or_too_many(self):
        book = RuleBook(SHEET)
        for deed in (lambda: RuleBook(), lambda: RuleBook.of(SHEET), lambda: RuleBook.told_by(SHEET),
                     lambda: book.at(0), lambda: book.at(0, 0, 0), lambda: book.only(), lambda: book.lean(1),
                     lambda: RuleBook.of(SHEET, (), ())):
            with self.assertRaises(TypeError):
                deed()


class Joined(unittest.TestCase):

    def test_a_book_that_was_joined_goes_on(self):
        one, other = RuleBook(SHEET, *BOOK[:1]), RuleBook(SHEET, *BOOK[1:2])
        both = one & other
        self.assertIs(both <= one and both <= other and both < one and both < other, True)
        self.assertEqual([filling for filling in all_fillings(SHEET) if filling in both],
                         [filling for filling in all_fillings(SHEET)
                          if all(rule_keeps(rule, filling) for rule in BOOK[:2])])
        self.assertIs((one & one) == one, True)
        self.assertEqual(len(one & one), 2)
        self.assertEqual((one & one).lean().rules, one.rules)


if __name__ == "__main__":
    unittest.main()
