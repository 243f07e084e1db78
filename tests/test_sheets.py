"""[3] [4] [5] [7] [10] Sheets, rules, books, parts and fillings, and F1 of [8]."""

import random
import unittest
from itertools import permutations, product

from eitherfields.sheets import (
    agrees, broken, holds, is_book, is_filling, is_part, is_rule, is_sheet, mixed)
from tests.helpers import (
    LARGEST, SMALL_SHEETS, all_fillings, all_parts, all_rules, among_rules, any_values, either_rules, keeping,
    match_rules, part_agrees, rule_keeps, some_books, some_part, some_rule, spoiled)


class Telling(unittest.TestCase):

    def yes(self, told, value):
        self.assertIs(told, True, value)

    def no(self, told, value):
        self.assertIs(told, False, value)


class IsSheet(Telling):

    def test_each_small_tuple(self):
        for size in range(4):
            for value in product(range(-1, 8), repeat=size):
                self.assertIs(is_sheet(value), size > 0 and all(many in (1, 2, 3, 4, 5) for many in value), value)

    def test_the_number_of_fields(self):
        for size in range(12):
            for many in (1, 5):
                self.assertIs(is_sheet((many,) * size), size in (1, 2, 3, 4, 5, 6, 7, 8), size)

    def test_the_number_of_values_at_each_place_of_the_largest(self):
        for at in range(8):
            for many, right in ((0, False), (1, True), (5, True), (6, False), (-5, False), (10 ** 30, False)):
                value = LARGEST[:at] + (many,) + LARGEST[at + 1:]
                self.assertIs(is_sheet(value), right, value)

    def test_other_kinds_of_values(self):
        for value in any_values():
            self.no(is_sheet(value), value)
        for value in ([1], [3, 3, 2], 1, 5, 333, "332", "3 3 2", ((3, 3, 2),), ("3", "3"), (3, None), (3, True)):
            self.no(is_sheet(value), value)
        for sheet in [*SMALL_SHEETS, LARGEST]:
            self.no(is_sheet(list(sheet)), sheet)
            for value in spoiled(sheet):
                self.no(is_sheet(value), value)

    def test_true_is_no_integer_whatever_was_asked_before(self):
        for _ in range(2):
            self.yes(is_sheet((1, 2)), (1, 2))
            self.no(is_sheet((True, 2)), (True, 2))
            self.no(is_sheet((1, False)), (1, False))
            self.no(is_sheet((True,)), (True,))


class IsRule(Telling):

    def test_all_rules_of_small_sheets(self):
        for sheet in [*SMALL_SHEETS, (5, 5), (1, 1, 1, 1, 1, 1, 1, 1)]:
            for rule in all_rules(sheet):
                self.yes(is_rule(sheet, rule), rule)

    def test_among_over_all_near_it(self):
        sheet = (2, 3)
        rules = set(among_rules(sheet))
        for field in range(-1, 4):
            for size in range(5):
                for entries in product(range(-1, 4), repeat=size):
                    rule = ("among", field, entries)
                    self.assertIs(is_rule(sheet, rule), rule in rules, rule)

    def test_match_over_all_near_it(self):
        sheet = (2, 3)
        rules = set(match_rules(sheet))
        near = list(product(range(-1, 3), range(-1, 4)))
        for low, high in product(range(-1, 3), repeat=2):
            for size in range(3 if (low, high) == (0, 1) else 2):
                for pairs in product(near, repeat=size):
                    rule = ("match", low, high, pairs)
                    self.assertIs(is_rule(sheet, rule), rule in rules, rule)

    def test_match_of_three_pairs(self):
        sheet = (4, 3, 3)
        rules = set(match_rules(sheet))
        for pairs in product(product(range(3), range(3)), repeat=3):
            for low, high in ((0, 1), (1, 2), (2, 1)):
                rule = ("match", low, high, pairs)
                self.assertIs(is_rule(sheet, rule), rule in rules, rule)

    def test_either_over_all_near_it(self):
        sheet = (2, 3, 1)
        rules = set(either_rules(sheet))
        for low, value, high, other in product(range(-1, 4), repeat=4):
            rule = ("either", low, value, high, other)
            self.assertIs(is_rule(sheet, rule), rule in rules, rule)

    def test_what_the_document_names(self):
        sheet = (3, 3, 2)
        for rule in (("among", 0, ()), ("among", 2, (0, 1)), ("among", 1, (0, 2)), ("match", 0, 1, ()),
                     ("match", 1, 2, ((0, 1), (2, 0))), ("match", 0, 1, ((0, 2), (1, 1), (2, 0))),
                     ("either", 0, 0, 1, 2), ("either", 0, 2, 2, 1)):
            self.yes(is_rule(sheet, rule), rule)
        for rule in (("among", 0, (1, 0)), ("among", 0, (1, 1)), ("among", 0, (3,)), ("among", 2, (2,)),
                     ("among", 3, ()), ("match", 0, 0, ((0, 0),)), ("match", 1, 0, ((0, 1),)),
                     ("match", 0, 1, ((1, 0), (0, 1))), ("match", 0, 1, ((0, 1), (0, 2))),
                     ("match", 0, 1, ((0, 1), (1, 1))), ("match", 0, 1, ((0, 1), (1, 2), (2, 1))),
                     ("match", 0, 1, ((0, 1), (0, 1))), ("match", 1, 2, ((0, 2),)), ("match", 1, 2, ((3, 0),)),
                     ("match", 1, 3, ()), ("match", 0, 1, ((0, 1, 2),)), ("match", 0, 1, ((0,),)),
                     ("match", 0, 1, ((),)), ("match", 0, 1, (0, 1)), ("match", 2, 2, ()),
                     ("either", 0, 0, 0, 1), ("either", 1, 0, 0, 0), ("either", 0, 3, 1, 0), ("either", 0, 0, 2, 2),
                     ("either", 0, 0, 3, 0), ("either", 0, 1, 2), ("either", 0, 0, 1, 2, 0), ("among", 0),
                     ("among", 0, (), ()), ("match", 0, 1), ("match", 0, 1, (), ()), ("neither", 0, 0, 1, 2),
                     ("match", 0, (0,)), ("among", 0, 1, ()), ("either", 0, 1, ()), ("", 0, ()), (0, ()), ()):
            self.no(is_rule(sheet, rule), rule)

    def test_the_largest(self):
        full = tuple((value, 4 - value) for value in range(5))
        for rule in (("among", 7, (0, 1, 2, 3, 4)), ("match", 6, 7, full), ("match", 0, 7, full),
                     ("either", 0, 4, 7, 4), ("either", 6, 0, 7, 0)):
            self.yes(is_rule(LARGEST, rule), rule)
        for rule in (("among", 8, (0,)), ("among", 7, (0, 1, 2, 3, 4, 5)), ("among", 0, (5,)), ("among", -1, (0,)),
                     ("match", 6, 8, full), ("match", -1, 7, full), ("match", 7, 7, full), ("match", 0, 7, full[::-1]),
                     ("match", 0, 7, full + ((5, 5),)), ("match", 0, 7, full[:4] + ((4, 4),)),
                     ("either", 0, 5, 7, 4), ("either", 0, 4, 7, 5), ("either", 0, 4, 8, 4), ("either", 0, -1, 7, 4)):
            self.no(is_rule(LARGEST, rule), rule)

    def test_other_kinds_of_values(self):
        for sheet in ((3, 3, 2), LARGEST):
            for value in any_values():
                self.no(is_rule(sheet, value), value)

    def test_one_thing_of_another_kind_in_a_rule(self):
        sheet = (2, 3, 2)
        for rule in all_rules(sheet):
            self.no(is_rule(sheet, list(rule)), rule)
            self.no(is_rule(sheet, (rule,)), rule)
            for value in spoiled(rule):
                self.no(is_rule(sheet, value), value)

    def test_one_thing_too_few_or_too_many(self):
        sheet = (2, 3, 2)
        for rule in all_rules(sheet):
            for size in range(len(rule)):
                self.no(is_rule(sheet, rule[:size]), rule)
                self.no(is_rule(sheet, rule[size + 1:]), rule)
            for more in (None, 0, 1, (), (0,), ((0, 0),), "and"):
                self.no(is_rule(sheet, rule + (more,)), rule)

    def test_true_is_no_integer_whatever_was_asked_before(self):
        sheet = (2, 2)
        for _ in range(2):
            self.yes(is_rule(sheet, ("among", 1, (0, 1))), "integers")
            self.no(is_rule(sheet, ("among", True, (0, 1))), "a boolean")
            self.no(is_rule(sheet, ("among", 1, (False, True))), "booleans")
            self.yes(is_rule(sheet, ("match", 0, 1, ((0, 1), (1, 0)))), "integers")
            self.no(is_rule(sheet, ("match", 0, 1, ((0, True), (1, 0)))), "a boolean")
            self.no(is_rule(sheet, ("match", False, 1, ((0, 1), (1, 0)))), "a boolean")
            self.yes(is_rule(sheet, ("either", 0, 1, 1, 0)), "integers")
            self.no(is_rule(sheet, ("either", 0, True, 1, 0)), "a boolean")


class IsBook(Telling):

    def test_books(self):
        sheet = (2, 2, 2)
        rules = tuple(all_rules(sheet))
        self.yes(is_book(sheet, ()), ())
        self.yes(is_book(sheet, rules), "all rules")
        self.yes(is_book(sheet, rules[::-1]), "in any sequence")
        for rule in rules:
            self.yes(is_book(sheet, (rule,)), rule)
            self.yes(is_book(sheet, (rule, rule)), rule)

    def test_more_rules_than_a_caller_should_have(self):
        sheet = (3, 3)
        for size in (12, 13, 20, 21, 30, 100):
            self.yes(is_book(sheet, (("either", 0, 1, 1, 2),) * size), size)
            self.yes(is_book(LARGEST, (("match", 2, 6, ((0, 4), (3, 1))),) * size), size)

    def test_a_value_that_is_no_rule_at_each_place(self):
        sheet = (3, 3, 2)
        book = (("among", 0, (0, 2)), ("match", 1, 2, ((0, 1), (2, 0))), ("either", 0, 0, 1, 2))
        for wrong in [*any_values(), list(book[0]), ("among", 3, ()), ("either", 0, 0, 0, 0), book]:
            for at in range(4):
                value = book[:at] + (wrong,) + book[at:]
                self.no(is_book(sheet, value), value)
        for value in spoiled(book):
            self.no(is_book(sheet, value), value)

    def test_other_kinds_of_values(self):
        sheet = (3, 3, 2)
        for value in any_values():
            self.assertIs(is_book(sheet, value), type(value) is tuple and value == (), value)
        for value in ([], [("among", 0, (0,))], ("among", 0, (0,)), "-", "a in 0"):
            self.no(is_book(sheet, value), value)

    def test_a_rule_of_another_sheet(self):
        for rule in (("among", 0, (2,)), ("among", 2, ()), ("match", 0, 1, ((1, 1), (2, 0))), ("either", 0, 2, 1, 0)):
            self.yes(is_book((3, 2, 1), (rule,)), rule)
            self.no(is_book((2, 2), (rule,)), rule)


class IsPartIsFilling(Telling):

    def test_each_small_tuple(self):
        for sheet in ((1,), (3,), (2, 3), (3, 2), (1, 2, 2)):
            parts, fillings = set(all_parts(sheet)), set(all_fillings(sheet))
            for size in range(len(sheet) + 2):
                for value in product([None, *range(-1, 5)], repeat=size):
                    self.assertIs(is_part(sheet, value), value in parts, (sheet, value))
                    self.assertIs(is_filling(sheet, value), value in fillings, (sheet, value))

    def test_the_largest(self):
        for value in ((0,) * 8, (4,) * 8, (0, 1, 2, 3, 4, 3, 2, 1)):
            self.yes(is_part(LARGEST, value), value)
            self.yes(is_filling(LARGEST, value), value)
        self.yes(is_part(LARGEST, (None,) * 8), "nothing")
        self.no(is_filling(LARGEST, (None,) * 8), "nothing")
        for at in range(8):
            value = (4,) * at + (None,) + (0,) * (7 - at)
            self.yes(is_part(LARGEST, value), value)
            self.no(is_filling(LARGEST, value), value)
            for wrong in (5, -1, True, False, "0", 10 ** 30, (0,), [None]):
                value = (4,) * at + (wrong,) + (0,) * (7 - at)
                self.no(is_part(LARGEST, value), value)
                self.no(is_filling(LARGEST, value), value)
        for size in (0, 1, 7, 9, 16):
            for one in (0, None):
                self.no(is_part(LARGEST, (one,) * size), size)
                self.no(is_filling(LARGEST, (one,) * size), size)

    def test_other_kinds_of_values(self):
        for sheet in ((3, 3, 2), (2, 3), LARGEST):
            for value in any_values():
                self.no(is_part(sheet, value), value)
                self.no(is_filling(sheet, value), value)
        for part in all_parts((2, 3)):
            self.no(is_part((2, 3), list(part)), part)
            self.no(is_filling((2, 3), list(part)), part)
            self.no(is_part((2, 3), (part,)), part)
        for value in spoiled((1, 0)):
            self.no(is_filling((2, 3), value), value)
            self.assertIs(is_part((2, 3), value), None in value, value)

    def test_true_is_no_integer_whatever_was_asked_before(self):
        for ask in (is_part, is_filling):
            for _ in range(2):
                self.yes(ask((2, 2), (1, 0)), "integers")
                self.no(ask((2, 2), (True, 0)), "a boolean")
                self.no(ask((2, 2), (1, False)), "a boolean")


class Holds(Telling):

    def test_each_rule_over_each_filling_of_small_sheets(self):
        for sheet in [(4,), (2, 3), (3, 2), (2, 2, 2), (1, 3, 2)]:
            for rule in all_rules(sheet):
                for filling in all_fillings(sheet):
                    self.assertIs(holds(sheet, rule, filling), rule_keeps(rule, filling), (rule, filling))

    def test_among(self):
        for rule, kept in ((("among", 1, ()), []), (("among", 1, (0,)), [0]), (("among", 1, (0, 2)), [0, 2]),
                           (("among", 1, (1, 2)), [1, 2]), (("among", 1, (0, 1, 2)), [0, 1, 2])):
            for value in range(3):
                self.assertIs(holds((3, 3), rule, (0, value)), value in kept, rule)

    def test_match(self):
        rule = ("match", 1, 2, ((0, 1), (2, 0)))
        kept = [pair for pair in product(range(3), range(2)) if holds((3, 3, 2), rule, (1, *pair))]
        self.assertEqual(kept, [(0, 1), (2, 0)])
        for filling in all_fillings((3, 3, 2)):
            self.no(holds((3, 3, 2), ("match", 0, 2, ()), filling), filling)

    def test_either(self):
        rule = ("either", 0, 0, 2, 1)
        kept = [pair for pair in product(range(3), range(2)) if holds((3, 3, 2), rule, (pair[0], 2, pair[1]))]
        self.assertEqual(kept, [(0, 0), (0, 1), (1, 1), (2, 1)])

    def test_the_largest(self):
        dice = random.Random(10)
        for _ in range(2000):
            rule = some_rule(dice, LARGEST)
            filling = some_part(dice, LARGEST, fill=1)
            self.assertIs(holds(LARGEST, rule, filling), rule_keeps(rule, filling), (rule, filling))


class Broken(unittest.TestCase):

    def check(self, sheet, book, filling):
        told = broken(sheet, book, filling)
        self.assertIs(type(told), list)
        self.assertEqual(told, [at for at, rule in enumerate(book) if not rule_keeps(rule, filling)], (book, filling))

    def test_the_document(self):
        sheet = (3, 3, 2)
        book = (("either", 0, 0, 1, 2), ("match", 1, 2, ((0, 1), (2, 0))), ("among", 1, (0,)))
        self.assertEqual([filling for filling in all_fillings(sheet) if broken(sheet, book, filling) == []],
                         [(0, 0, 1)])
        self.assertEqual(broken(sheet, book, (0, 0, 1)), [])
        self.assertEqual(broken(sheet, book, (1, 2, 0)), [2])
        self.assertEqual(broken(sheet, book, (0, 0, 0)), [1])
        self.assertEqual(broken(sheet, book, (2, 1, 0)), [0, 1, 2])
        self.assertEqual(broken(sheet, book, (0, 2, 1)), [1, 2])
        self.assertEqual(broken(sheet, book, (1, 0, 1)), [0])

    def test_an_empty_book(self):
        for sheet in SMALL_SHEETS:
            for filling in all_fillings(sheet):
                self.assertEqual(broken(sheet, (), filling), [])

    def test_a_rule_twice_is_told_twice(self):
        book = (("among", 0, (0,)), ("among", 1, (1,)), ("among", 0, (0,)), ("among", 0, ()))
        self.assertEqual(broken((2, 2), book, (1, 1)), [0, 2, 3])
        self.assertEqual(broken((2, 2), book, (0, 1)), [3])
        self.assertEqual(broken((2, 2), book, (1, 0)), [0, 1, 2, 3])

    def test_books_of_small_sheets(self):
        for seed, sheet in enumerate(SMALL_SHEETS):
            for book in some_books(seed, sheet, 60, 6):
                for filling in all_fillings(sheet):
                    self.check(sheet, book, filling)

    def test_all_rules_at_once(self):
        for sheet in ((2, 3), (2, 2, 2)):
            book = tuple(all_rules(sheet))
            for filling in all_fillings(sheet):
                self.check(sheet, book, filling)

    def test_the_largest(self):
        dice = random.Random(11)
        for size in (20, 21, 40):
            for _ in range(60):
                book = tuple(some_rule(dice, LARGEST) for _ in range(size))
                self.check(LARGEST, book, some_part(dice, LARGEST, fill=1))

    def test_a_list_that_is_changed_changes_no_later_answer(self):
        book = (("among", 0, (0,)), ("among", 1, (1,)))
        first = broken((2, 2), book, (1, 0))
        first.append(7)
        first[0] = 9
        self.assertEqual(broken((2, 2), book, (1, 0)), [0, 1])
        empty = broken((2, 2), book, (0, 1))
        empty.append(0)
        self.assertEqual(broken((2, 2), book, (0, 1)), [])
        self.assertIsNot(broken((2, 2), book, (0, 1)), broken((2, 2), book, (0, 1)))


class Agrees(Telling):

    def test_each_part_and_filling_of_small_sheets(self):
        for sheet in SMALL_SHEETS:
            for part in all_parts(sheet):
                for filling in all_fillings(sheet):
                    self.assertIs(agrees(sheet, filling, part), part_agrees(filling, part), (filling, part))

    def test_examples(self):
        for filling, part in (((0, 1, 1), (0, None, None)), ((0, 1, 1), (None, None, None)), ((0, 1, 1), (0, 1, 1)),
                              ((2, 2, 0), (None, 2, 0))):
            self.yes(agrees((3, 3, 2), filling, part), (filling, part))
        for filling, part in (((1, 1, 1), (0, None, None)), ((0, 1, 1), (1, None, None)), ((0, 1, 1), (0, 1, 0)),
                              ((0, 0, 0), (None, None, 1)), ((2, 2, 0), (2, 0, None))):
            self.no(agrees((3, 3, 2), filling, part), (filling, part))

    def test_the_largest(self):
        filling = (4, 3, 2, 1, 0, 4, 3, 0)
        self.yes(agrees(LARGEST, filling, filling), filling)
        self.yes(agrees(LARGEST, filling, (None,) * 8), filling)
        for at, value in enumerate(filling):
            for told in range(5):
                self.assertIs(agrees(LARGEST, filling, (None,) * at + (told,) + (None,) * (7 - at)), told == value)
                self.assertIs(agrees(LARGEST, filling, filling[:at] + (told,) + filling[at + 1:]), told == value)


class Mixed(unittest.TestCase):

    def check(self, sheet, first, second, third):
        told = mixed(sheet, first=first, second=second, third=third)
        wanted = []
        for field in range(len(sheet)):
            wanted.append(first[field] if first[field] == second[field] else third[field])
        self.assertIs(type(told), tuple)
        self.assertEqual(told, tuple(wanted), (first, second, third))

    def test_the_document(self):
        told = mixed((3, 3, 2), first=(0, 0, 1), second=(1, 2, 0), third=(2, 2, 0))
        self.assertEqual(told, (2, 2, 0))

    def test_all_three_fillings_of_small_sheets(self):
        for sheet in ((4,), (2, 3), (3, 1, 2)):
            for first, second, third in product(all_fillings(sheet), repeat=3):
                self.check(sheet, first, second, third)

    def test_its_parameters_in_any_sequence(self):
        sheet, values = (3, 3, 3), {"first": (0, 1, 2), "second": (0, 2, 1), "third": (1, 0, 0)}
        for names in permutations(values):
            self.assertEqual(mixed(sheet, **{name: values[name] for name in names}), (0, 0, 0))
        for names in permutations(["sheet", *values]):
            self.assertEqual(mixed(**{name: {**values, "sheet": sheet}[name] for name in names}), (0, 0, 0))
        self.assertEqual(mixed(sheet, third=(0, 1, 2), first=(0, 2, 1), second=(1, 2, 0)), (0, 2, 2))
        self.assertEqual(mixed(sheet, second=(0, 1, 2), third=(0, 2, 1), first=(1, 1, 1)), (0, 1, 1))

    def test_the_fillings_are_not_passed_by_position(self):
        one = (0, 1)
        with self.assertRaises(TypeError):
            mixed((2, 2), one, one, one)
        with self.assertRaises(TypeError):
            mixed((2, 2), one, second=one, third=one)

    def test_the_largest(self):
        dice = random.Random(12)
        for _ in range(1000):
            few = dice.choice([LARGEST, (2,) * 8])
            self.check(LARGEST, *[some_part(dice, few, fill=1) for _ in range(3)])

    def test_the_mix_of_three_that_keep_a_book_keeps_it(self):
        for seed, sheet in enumerate([(2, 3), (3, 3), (2, 2, 2), (2, 1, 3)]):
            rules = [(rule,) for rule in all_rules(sheet)]
            for book in rules + some_books(seed, sheet, 40, 4, tight=0.95):
                kept = keeping(sheet, book)
                kept = random.Random(seed).sample(kept, 7) if len(kept) > 7 else kept
                for first, second, third in product(kept, repeat=3):
                    told = mixed(sheet, first=first, second=second, third=third)
                    self.assertEqual(broken(sheet, book, told), [], (book, first, second, third))

    def test_the_mix_keeps_each_rule_over_all_fillings_of_two_sheets(self):
        for sheet in ((2, 2), (3, 2)):
            for rule in all_rules(sheet):
                kept = [filling for filling in all_fillings(sheet) if holds(sheet, rule, filling)]
                for first, second, third in product(kept, repeat=3):
                    told = mixed(sheet, first=first, second=second, third=third)
                    self.assertIs(holds(sheet, rule, told), True, (rule, first, second, third))


if __name__ == "__main__":
    unittest.main()
