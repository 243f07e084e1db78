"""[13] Pairs, and F3 to F5 of [8]."""

import unittest
from itertools import combinations, permutations, product

from eitherfields.errors import InvalidEntry, InvalidPart, Unkeepable
from eitherfields.pairs import barring, can_be, essence, pairs, shape, stuck, sure
from eitherfields.sheets import is_book
from tests.helpers import (
    LARGEST, all_choices, all_parts, books_of_two_rules, cases, essence_told, keeping, part_agrees, same,
    shapes_told)

SHEET = (3, 3, 2)
BOOK = (("either", 0, 0, 1, 2), ("match", 1, 2, ((0, 1), (2, 0))))
NARROW = BOOK + (("among", 1, (0,)),)
UNKEPT = NARROW + (("among", 0, (1, 2)),)
CASES = cases(2) + books_of_two_rules((2, 2))


class CanBe(unittest.TestCase):

    def test_the_document(self):
        self.assertEqual([can_be(SHEET, BOOK, field) for field in range(3)], [[0, 1, 2], [0, 2], [0, 1]])
        self.assertEqual([can_be(SHEET, NARROW, field) for field in range(3)], [[0], [0], [1]])
        self.assertEqual([can_be(SHEET, UNKEPT, field) for field in range(3)], [[], [], []])

    def test_cases(self):
        for sheet, book, kept in CASES:
            for field in range(len(sheet)):
                wanted = sorted({filling[field] for filling in kept})
                self.assertTrue(same(can_be(sheet, book, field), wanted), (sheet, book, field))

    def test_a_book_that_nothing_keeps_for_another_field(self):
        for field in range(3):
            self.assertEqual(can_be((2, 2, 2), (("among", 2, ()),), field), [])


class Pairs(unittest.TestCase):

    def test_the_document(self):
        self.assertEqual(pairs(SHEET, BOOK, 0, 1), [(0, 0), (0, 2), (1, 2), (2, 2)])
        self.assertEqual(pairs(SHEET, BOOK, 1, 0), [(0, 0), (2, 0), (2, 1), (2, 2)])
        self.assertEqual(pairs(SHEET, BOOK, 0, 2), [(0, 0), (0, 1), (1, 0), (2, 0)])
        self.assertEqual(pairs(SHEET, BOOK, 1, 2), [(0, 1), (2, 0)])
        self.assertEqual(pairs(SHEET, BOOK, 2, 1), [(0, 2), (1, 0)])
        self.assertEqual(pairs(SHEET, NARROW, 0, 2), [(0, 1)])
        self.assertEqual(pairs(SHEET, UNKEPT, 0, 2), [])

    def test_cases_in_both_sequences(self):
        for sheet, book, kept in CASES:
            for one, other in permutations(range(len(sheet)), 2):
                wanted = sorted({(filling[one], filling[other]) for filling in kept})
                self.assertTrue(same(pairs(sheet, book, one, other), wanted), (sheet, book, one, other))

    def test_a_book_that_nothing_keeps_for_another_field(self):
        for one, other in permutations(range(3), 2):
            self.assertEqual(pairs((2, 2, 2), (("among", 2, ()),), one, other), [])


class Shape(unittest.TestCase):

    def test_the_document(self):
        self.assertEqual(shape(SHEET, BOOK, 0, 1), "either")
        self.assertEqual(shape(SHEET, BOOK, 0, 2), "either")
        self.assertEqual(shape(SHEET, BOOK, 1, 2), "match")
        self.assertEqual(shape(SHEET, NARROW, 0, 1), "all")
        self.assertEqual(shape(SHEET, UNKEPT, 0, 1), "none")
        self.assertEqual(shape(SHEET, (), 0, 1), "all")

    def test_cases_in_both_sequences(self):
        told = {"all": 0, "match": 0, "either": 0, "none": 0}
        for sheet, book, kept in CASES + books_of_two_rules((2, 3)):
            for one, other in permutations(range(len(sheet)), 2):
                word = shape(sheet, book, one, other)
                wanted = [one[0] for one in shapes_told({(filling[one], filling[other]) for filling in kept})]
                self.assertEqual([word], wanted if kept else ["none"], (sheet, book, one, other))
                told[word] += 1
        self.assertGreater(min(told.values()), 50, told)

    def test_two_values_each(self):
        for rule, word in ((("match", 0, 1, ((0, 0), (1, 1))), "match"), (("match", 0, 1, ((0, 1), (1, 0))), "match"),
                           (("match", 0, 1, ((0, 1),)), "all"), (("match", 0, 1, ()), "none"),
                           (("either", 0, 0, 1, 0), "either"), (("either", 0, 1, 1, 0), "either"),
                           (("among", 0, (1,)), "all"), (("among", 0, (0, 1)), "all")):
            self.assertEqual(shape((2, 2), (rule,), 0, 1), word, rule)
            self.assertEqual(shape((2, 2), (rule,), 1, 0), word, rule)

    def test_an_either_rule_over_a_field_of_one_value_is_all(self):
        self.assertEqual(shape((1, 3), (("either", 0, 0, 1, 2),), 0, 1), "all")
        self.assertEqual(shape((3, 3), (("either", 0, 0, 1, 2), ("among", 0, (1,))), 0, 1), "all")
        self.assertEqual(shape((3, 3), (("either", 0, 0, 1, 2), ("among", 0, (0,))), 0, 1), "all")


class Essence(unittest.TestCase):

    def test_the_document(self):
        self.assertEqual(essence(SHEET, BOOK), (
            ("among", 1, (0, 2)), ("either", 0, 0, 1, 2), ("either", 0, 0, 2, 0),
            ("match", 1, 2, ((0, 1), (2, 0)))))
        self.assertEqual(essence(SHEET, NARROW), (("among", 0, (0,)), ("among", 1, (0,)), ("among", 2, (1,))))
        self.assertIsNone(essence(SHEET, UNKEPT))
        self.assertEqual(essence(SHEET, ()), ())

    def test_cases(self):
        for sheet, book, kept in CASES + books_of_two_rules((2, 3)):
            told = essence(sheet, book)
            if not kept:
                self.assertIsNone(told, (sheet, book))
                continue
            self.assertTrue(same(told, essence_told(sheet, kept)), (sheet, book, told))
            self.assertIs(is_book(sheet, told), True)
            self.assertEqual(keeping(sheet, told), kept, (sheet, book, told))

    def test_it_is_its_own_essence(self):
        for sheet, book, kept in CASES:
            if kept:
                told = essence(sheet, book)
                self.assertEqual(essence(sheet, told), told)

    def test_books_that_the_same_fillings_keep_have_one_essence(self):
        by_kept = {}
        for sheet, book, kept in books_of_two_rules((2, 3)):
            by_kept.setdefault(tuple(kept), set()).add(essence(sheet, book))
        self.assertTrue(all(len(told) == 1 for told in by_kept.values()))
        self.assertEqual(len(set().union(*by_kept.values())), len(by_kept))

    def test_the_sequence_of_the_rules(self):
        same_values = tuple((value, value) for value in range(3))
        book = (("match", 1, 3, same_values), ("match", 0, 2, same_values), ("among", 3, (0, 2)), ("among", 2, (1, 2)))
        told = essence((3, 3, 3, 3), book)
        self.assertEqual(told, (
            ("among", 0, (1, 2)), ("among", 1, (0, 2)), ("among", 2, (1, 2)), ("among", 3, (0, 2)),
            ("match", 0, 2, ((1, 1), (2, 2))), ("match", 1, 3, ((0, 0), (2, 2)))))


class Sure(unittest.TestCase):

    def check(self, sheet, book, kept, part, *more):
        agreeing = [filling for filling in kept if part is None or part_agrees(filling, part)]
        if not agreeing:
            with self.assertRaises(Unkeepable) as caught:
                sure(sheet, book, *more)
            self.assertIs(type(caught.exception), Unkeepable)
            return
        wanted = [(field, value) for field, value in all_choices(sheet)
                  if all(filling[field] == value for filling in agreeing)]
        self.assertTrue(same(sure(sheet, book, *more), wanted), (sheet, book, more))

    def test_the_document(self):
        self.assertEqual(sure(SHEET, BOOK), [])
        self.assertEqual(sure(SHEET, NARROW), [(0, 0), (1, 0), (2, 1)])
        self.assertEqual(sure(SHEET, BOOK, (1, None, None)), [(0, 1), (1, 2), (2, 0)])
        self.assertEqual(sure(SHEET, BOOK, part=(None, 2, None)), [(1, 2), (2, 0)])
        self.assertEqual(sure((1, 2), ()), [(0, 0)])
        for book, part in ((BOOK, (1, 0, None)), (BOOK, (None, 1, None)), (UNKEPT, None),
                           (UNKEPT, (None, None, None)), (UNKEPT, (0, 0, 1))):
            with self.assertRaises(Unkeepable):
                sure(SHEET, book, part)

    def test_cases_with_all_parts(self):
        for sheet, book, kept in CASES:
            for part in all_parts(sheet):
                self.check(sheet, book, kept, part, part)

    def test_no_part(self):
        for sheet, book, kept in CASES:
            self.check(sheet, book, kept, None)
            self.check(sheet, book, kept, None, None)

    def test_a_value_that_no_value_forces_alone(self):
        book = (("either", 0, 0, 1, 0), ("either", 0, 0, 1, 1))
        self.assertEqual(sure((2, 2), book), [(0, 0)])
        self.assertEqual(sure((2, 2), book, (None, 1)), [(0, 0), (1, 1)])
        self.assertEqual(sure((3, 2), (("among", 0, (0, 1)), ("either", 0, 1, 1, 0)), (None, 1)), [(0, 1), (1, 1)])


class Stuck(unittest.TestCase):

    def wanted(self, kept, part):
        if not kept:
            return ()
        if any(part_agrees(filling, part) for filling in kept):
            return None
        filled = [field for field, value in enumerate(part) if value is not None]
        for size in (1, 2):
            for fields in combinations(filled, size):
                if not any(all(filling[field] == part[field] for field in fields) for filling in kept):
                    return fields
        raise AssertionError("F3 is wrong")

    def test_the_document(self):
        self.assertIsNone(stuck(SHEET, BOOK, (None, None, None)))
        self.assertIsNone(stuck(SHEET, BOOK, (1, 2, 0)))
        self.assertEqual(stuck(SHEET, BOOK, (None, 1, None)), (1,))
        self.assertEqual(stuck(SHEET, BOOK, (1, 0, None)), (0, 1))
        self.assertEqual(stuck(SHEET, BOOK, (1, None, 1)), (0, 2))
        self.assertEqual(stuck(SHEET, BOOK, (None, 2, 1)), (1, 2))
        self.assertEqual(stuck(SHEET, BOOK, (1, 1, 1)), (1,))
        self.assertEqual(stuck(SHEET, BOOK, (2, 0, 0)), (0, 1))
        self.assertEqual(stuck(SHEET, NARROW, (1, 2, 0)), (0,))
        self.assertEqual(stuck(SHEET, UNKEPT, (None, None, None)), ())
        self.assertEqual(stuck(SHEET, UNKEPT, (0, 1, 1)), ())

    def test_cases_with_all_parts(self):
        told = {}
        for sheet, book, kept in CASES:
            for part in all_parts(sheet):
                fields = stuck(sheet, book, part)
                self.assertTrue(same(fields, self.wanted(kept, part)), (sheet, book, part, fields))
                size = None if fields is None else len(fields)
                told[size] = told.get(size, 0) + 1
        self.assertTrue(all(told.get(size, 0) > 300 for size in (None, 0, 1, 2)), told)


class Barring(unittest.TestCase):

    def check(self, sheet, book, kept, part, field, value):
        others = part[:field] + (None,) + part[field + 1:]
        chosen = part[:field] + (value,) + part[field + 1:]
        if not any(part_agrees(filling, others) for filling in kept):
            with self.assertRaises(Unkeepable) as caught:
                barring(sheet, book, part, field, value)
            self.assertIs(type(caught.exception), Unkeepable)
            return "unkeepable"
        told = barring(sheet, book, part, field, value)
        if any(part_agrees(filling, chosen) for filling in kept):
            wanted = None
        elif not any(filling[field] == value for filling in kept):
            wanted = ()
        else:
            wanted = next((other,) for other, there in enumerate(others) if there is not None and not any(
                filling[other] == there and filling[field] == value for filling in kept))
        self.assertTrue(same(told, wanted), (sheet, book, part, field, value, told))
        return wanted if wanted is None else len(wanted)

    def test_the_document(self):
        empty = (None, None, None)
        self.assertIsNone(barring(SHEET, BOOK, empty, 0, 1))
        self.assertEqual(barring(SHEET, BOOK, empty, 1, 1), ())
        self.assertEqual(barring(SHEET, BOOK, (1, None, None), 1, 0), (0,))
        self.assertEqual(barring(SHEET, BOOK, (1, None, None), 1, 1), ())
        self.assertEqual(barring(SHEET, BOOK, (1, 2, None), 2, 1), (0,))
        self.assertEqual(barring(SHEET, BOOK, (0, 2, None), 2, 1), (1,))
        self.assertIsNone(barring(SHEET, BOOK, (0, 0, None), 2, 1))

    def test_a_value_in_the_place_of_what_is_there(self):
        self.assertIsNone(barring(SHEET, BOOK, (1, 0, None), 0, 0))
        self.assertIsNone(barring(SHEET, BOOK, (1, None, None), 0, 2))
        self.assertIsNone(barring(SHEET, BOOK, (1, None, None), 0, 1))
        self.assertIsNone(barring(SHEET, BOOK, (None, 1, None), 1, 0))
        self.assertEqual(barring(SHEET, BOOK, (0, 2, 0), 1, 0), (2,))

    def test_unkeepable_first(self):
        for book, part, field, value in ((UNKEPT, (None, None, None), 0, 0), (BOOK, (1, None, 1), 1, 1),
                                         (BOOK, (None, 1, None), 0, 0), (BOOK, (1, 0, 1), 1, 1),
                                         (BOOK, (1, 0, None), 2, 0)):
            with self.assertRaises(Unkeepable):
                barring(SHEET, book, part, field, value)
        with self.assertRaises(InvalidEntry):
            barring(SHEET, UNKEPT, (None, None, None), 2, 2)
        with self.assertRaises(InvalidPart):
            barring(SHEET, UNKEPT, None, 0, 0)

    def test_cases_with_all_parts(self):
        told = {}
        for sheet, book, kept in CASES[::2]:
            for part, (field, value) in product(all_parts(sheet), all_choices(sheet)):
                size = self.check(sheet, book, kept, part, field, value)
                told[size] = told.get(size, 0) + 1
        self.assertTrue(all(told.get(size, 0) > 500 for size in (None, 0, 1, "unkeepable")), told)


class Facts(unittest.TestCase):

    def test_a_filling_keeps_a_book_exactly_if_its_values_and_its_pairs_can_be(self):
        for sheet, book, kept in CASES[::2]:
            if not kept:
                continue
            values = [can_be(sheet, book, field) for field in range(len(sheet))]
            met = {two: pairs(sheet, book, *two) for two in combinations(range(len(sheet)), 2)}
            told = [filling for filling in product(*[range(many) for many in sheet])
                    if all(value in values[field] for field, value in enumerate(filling))
                    and all((filling[one], filling[other]) in met[one, other] for one, other in met)]
            self.assertEqual(told, kept, (sheet, book))

    def test_the_largest_without_rules(self):
        self.assertEqual(essence(LARGEST, ()), ())
        self.assertEqual(sure(LARGEST, ()), [])
        self.assertIsNone(stuck(LARGEST, (), (4,) * 8))
        self.assertIsNone(barring(LARGEST, (), (4,) * 8, 7, 0))


if __name__ == "__main__":
    unittest.main()
