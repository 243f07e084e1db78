"""[12] [13] [14] Sheets of 8 fields of 5 values, with as many rules and fillings as a caller may have, and more."""

import random
import unittest
from itertools import combinations, islice

from eitherfields.books import RuleBook, alike, because, breaking, follows, lean, learned, needless, only, parting
from eitherfields.keeping import core, fillings, finished, keepable, paper
from eitherfields.pairs import barring, can_be, essence, pairs, shape, stuck, sure
from eitherfields.sheets import broken, is_book
from tests.helpers import (
    LARGEST, all_choices, kept_rules, left_out_one_by_one, paper_fault, part_agrees, rule_keeps, same, shapes_told,
    some_part, some_rule, tried)


def first_kept(sheet, book, part=None):
    return next(tried(sheet, book, part), None)


def part_with(**values):
    """A part of the largest sheet, its fields named f0 to f7."""
    return tuple(values.get(f"f{field}") for field in range(8))


def part_of(choices):
    return part_with(**{f"f{field}": value for field, value in choices})


def turned(by, lows=range(5)):
    return tuple((value, (value + by) % 5) for value in lows)


def books_of(size, seed):
    """Books of so many rules: those that hold of one, two and three fillings, and those of any rules."""
    dice = random.Random(seed)
    found = []
    for shown in (1, 1, 2, 3):
        for tight in (0.7, 1):
            seen = [some_part(dice, LARGEST, fill=1) for _ in range(shown)]
            found.append(kept_rules(dice, LARGEST, seen, size, tight))
    return found + [tuple(some_rule(dice, LARGEST, 0.95) for _ in range(size)) for _ in range(3)]


TWENTY = books_of(20, 1)
TWELVE = books_of(12, 2)
RING = tuple(("match", low, low + 1, turned(low % 3)) for low in range(7))
WIDE = RING + tuple(("among", field, (0, 1, 2, 4)) for field in (0, 3, 5)) + (("either", 0, 1, 7, 3),)


class Kept(unittest.TestCase):

    def test_keepable_and_finished(self):
        dice = random.Random(3)
        told = []
        for book in TWENTY + [RING, WIDE]:
            told.append(keepable(LARGEST, book))
            self.assertIs(told[-1], first_kept(LARGEST, book) is not None)
            self.assertEqual(finished(LARGEST, book), first_kept(LARGEST, book))
            for fill in (0.1, 0.1, 0.2, 0.3, 0.5, 1):
                part = some_part(dice, LARGEST, fill)
                self.assertEqual(finished(LARGEST, book, part), first_kept(LARGEST, book, part), (book, part))
        self.assertTrue(told.count(True) > 5 and told.count(False) > 1, told)

    def test_fillings(self):
        for book in TWENTY + [RING, WIDE, ()]:
            for most in (1, 100, 1000):
                self.assertEqual(list(fillings(LARGEST, book, most=most)), list(islice(tried(LARGEST, book), most)))

    def test_paper(self):
        for book in TWENTY:
            told = paper(LARGEST, book)
            self.assertIs(told is None, keepable(LARGEST, book))
            if told is not None:
                self.assertEqual(len(told[1]), 5)
                for value, clash in enumerate(told[1]):
                    self.assertIsNone(paper_fault(book, told[0], value, clash), (book, clash))

    def test_a_long_way_to_each_clash(self):
        book = RING + tuple(("among", 7, tuple(entry for entry in range(5) if entry != value)) for value in range(5))
        field, clashes = paper(LARGEST, book)
        self.assertEqual((field, len(clashes)), (0, 5))
        for value, clash in enumerate(clashes):
            self.assertIsNone(paper_fault(book, 0, value, clash), clash)
            self.assertGreaterEqual(len(clash[0]), 7)
        self.assertEqual(core(LARGEST, book), list(range(7, 12)))
        ends = (("among", 0, (0, 1)), ("among", 7, (0, 3, 4)))
        self.assertEqual(core(LARGEST, RING + ends), list(range(9)))
        self.assertEqual(core(LARGEST, ends + RING + RING + ends), [0, 1, *range(2, 9)])

    def test_core(self):
        for book in TWELVE:
            told = core(LARGEST, book)
            if first_kept(LARGEST, book) is not None:
                self.assertIsNone(told)
            else:
                self.assertEqual(told, left_out_one_by_one(
                    book, lambda rest, rule: first_kept(LARGEST, rest) is None))


class Together(unittest.TestCase):

    def test_can_be_pairs_and_shape(self):
        for book in TWENTY + [RING, WIDE]:
            for field in range(8):
                wanted = [value for value in range(5) if first_kept(LARGEST, book, part_of([(field, value)]))]
                self.assertEqual(can_be(LARGEST, book, field), wanted)
            for one, other in ((0, 1), (2, 5), (7, 0), (6, 3)):
                wanted = [(low, high) for low in range(5) for high in range(5)
                          if first_kept(LARGEST, book, part_of([(one, low), (other, high)]))]
                self.assertEqual(pairs(LARGEST, book, one, other), wanted)
                words = [told[0] for told in shapes_told(set(wanted))] if wanted else ["none"]
                self.assertEqual([shape(LARGEST, book, one, other)], words)

    def test_essences_passed_back_as_books(self):
        sizes = []
        for book in TWENTY + [RING, WIDE]:
            told = essence(LARGEST, book)
            if told is None:
                self.assertIs(keepable(LARGEST, book), False)
                continue
            sizes.append(len(told))
            self.assertIs(is_book(LARGEST, told), True)
            self.assertTrue(same(essence(LARGEST, told), told))
            self.assertEqual(essence(LARGEST, book + told), told)
            self.assertIs(alike(LARGEST, book, told), True)
            self.assertIsNone(parting(LARGEST, book, told))
            self.assertEqual(list(fillings(LARGEST, told)), list(fillings(LARGEST, book)))
            self.assertTrue(all(follows(LARGEST, book, rule) for rule in told))
            self.assertTrue(all(follows(LARGEST, told, rule) for rule in book))
            for at in needless(LARGEST, told)[:3]:
                self.assertIs(follows(LARGEST, told[:at] + told[at + 1:], told[at]), True)
            self.assertIs(alike(LARGEST, tuple(told[at] for at in lean(LARGEST, told)), book), True)
        self.assertGreater(max(sizes), 30)

    def test_the_ring(self):
        told = essence(LARGEST, RING)
        self.assertEqual([rule[:3] for rule in told], [("match", *two) for two in combinations(range(8), 2)])
        self.assertTrue(all(len(rule[3]) == 5 for rule in told))
        self.assertEqual(sure(LARGEST, RING, (0,) + (None,) * 7), list(enumerate((0, 0, 1, 3, 3, 4, 1, 1))))
        self.assertEqual(len(essence(LARGEST, RING + (("among", 7, (0, 4)),))), 36)

    def test_either_rules_between_all_fields(self):
        book = tuple(("either", low, low % 5, high, high % 5) for low, high in combinations(range(8), 2))
        self.assertEqual(essence(LARGEST, book), book)
        self.assertEqual(needless(LARGEST, book), [])
        self.assertEqual(lean(LARGEST, book), list(range(28)))
        self.assertEqual(len(list(fillings(LARGEST, book))), 8 * 4 + 1)

    def test_sure(self):
        dice = random.Random(4)
        for book in TWENTY:
            for fill in (0, 0.1, 0.2):
                part = some_part(dice, LARGEST, fill)
                least = first_kept(LARGEST, book, part)
                if least is None:
                    continue
                wanted = []
                for field, value in enumerate(least):
                    others = [part[:field] + (entry,) + part[field + 1:] for entry in range(5) if entry != value]
                    left = [one for one in others if part[field] is None and first_kept(LARGEST, book, one)]
                    wanted += [] if left else [(field, value)]
                self.assertEqual(sure(LARGEST, book, part), wanted, (book, part))

    def test_stuck_and_barring(self):
        dice = random.Random(5)
        told = set()
        for book in TWENTY:
            if first_kept(LARGEST, book) is None:
                self.assertEqual(stuck(LARGEST, book, (0,) * 8), ())
                continue
            for fill in (0.2, 0.4, 1):
                part = some_part(dice, LARGEST, fill)
                wanted = self.least_to_blame(book, part)
                told.add(None if wanted is None else len(wanted))
                self.assertEqual(stuck(LARGEST, book, part), wanted, (book, part))
            part = finished(LARGEST, book, None)
            for field, value in all_choices(LARGEST):
                chosen = part[:field] + (value,) + part[field + 1:]
                blame = self.least_to_blame(book, chosen)
                barred = barring(LARGEST, book, part, field, value)
                if blame is None or len(blame) == 1:
                    self.assertEqual(barred, None if blame is None else ())
                else:
                    self.assertEqual(barred, tuple(other for other in blame if other != field))
        self.assertEqual(told, {None, 1, 2})

    def least_to_blame(self, book, part):
        if first_kept(LARGEST, book, part) is not None:
            return None
        filled = [(field, value) for field, value in enumerate(part) if value is not None]
        for size in (1, 2):
            for choices in combinations(filled, size):
                if first_kept(LARGEST, book, part_of(choices)) is None:
                    return tuple(field for field, _ in choices)
        raise AssertionError("F3 is wrong")


class Books(unittest.TestCase):

    def first_breaking(self, book, rules):
        """The least filling that keeps a book and breaks some of the rules."""
        found = [first_kept(LARGEST, book, part_of(choices)) for rule in rules for choices in self.misses(rule)]
        return min([filling for filling in found if filling is not None], default=None)

    def misses(self, rule):
        fields = rule[1:2] if rule[0] == "among" else (rule[1], rule[2] if rule[0] == "match" else rule[3])
        for part in tried(tuple(5 if field in fields else 1 for field in range(8)), ()):
            if not rule_keeps(rule, part):
                yield [(field, part[field]) for field in fields]

    def test_follows_and_breaking(self):
        dice = random.Random(6)
        told = []
        for book in TWENTY + [RING, WIDE]:
            rules = [some_rule(dice, LARGEST, 0.9) for _ in range(6)]
            rules += [rule for rule in (essence(LARGEST, book) or ())[::6]]
            for rule in rules:
                wanted = self.first_breaking(book, [rule])
                self.assertEqual(breaking(LARGEST, book, rule), wanted, (book, rule))
                self.assertIs(follows(LARGEST, book, rule), wanted is None, (book, rule))
                told.append(wanted is None)
        self.assertTrue(min(told.count(True), told.count(False)) > 20, told)

    def test_parting(self):
        self.assertEqual(len(TWELVE), 11)
        for one, other in combinations(TWELVE, 2):
            found = [self.first_breaking(one, other), self.first_breaking(other, one)]
            wanted = min([filling for filling in found if filling is not None], default=None)
            self.assertEqual(parting(LARGEST, one, other), wanted, (one, other))
            self.assertIs(alike(LARGEST, one, other), wanted is None)
        for book in TWELVE:
            self.assertIsNone(parting(LARGEST, book, book[::-1]))
            self.assertIs(alike(LARGEST, book, book[::-1] + book), True)

    def test_because_lean_and_needless(self):
        for book in TWELVE[::2]:
            def spare(rest, rule):
                return self.first_breaking(rest, [rule]) is None
            self.assertEqual(lean(LARGEST, book), left_out_one_by_one(book, spare))
            self.assertEqual(needless(LARGEST, book), [at for at, rule in enumerate(book)
                                                       if spare(book[:at] + book[at + 1:], rule)])
            for rule in (essence(LARGEST, book) or book)[::9]:
                self.assertEqual(because(LARGEST, book, rule),
                                 left_out_one_by_one(book, lambda rest, left_out: spare(rest, rule)))

    def test_needless_of_twenty(self):
        for book in TWENTY[::3]:
            told = needless(LARGEST, book)
            for at, rule in enumerate(book):
                self.assertIs(self.first_breaking(book[:at] + book[at + 1:], [rule]) is None, at in told)

    def test_only(self):
        for book in TWENTY + [RING, WIDE]:
            for fields in ((0,), (7,), (1, 6), (0, 3, 4, 7), tuple(range(8))):
                sheet, left = only(LARGEST, book, fields)
                self.assertEqual(sheet, (5,) * len(fields))
                if not keepable(LARGEST, book):
                    self.assertEqual(left, (("among", 0, ()),))
                    continue
                self.assertEqual(left, essence(sheet, left) or ())
                for filling in islice(tried(sheet, left), 60):
                    self.assertIsNotNone(first_kept(LARGEST, book, part_of(list(zip(fields, filling)))))
                for filling in islice(tried(LARGEST, book), 60):
                    self.assertEqual(broken(sheet, left, tuple(filling[field] for field in fields)), [])

    def test_learned_of_a_hundred(self):
        dice = random.Random(7)
        for book in [RING, WIDE, (), *TWENTY[:2]]:
            kept = list(islice(tried(LARGEST, book), 3000))
            for size in (1, 2, 3, 100):
                seen = [dice.choice(kept) for _ in range(size)]
                told = learned(LARGEST, seen)
                self.assertEqual(essence(LARGEST, told) or (), told)
                self.assertTrue(all(broken(LARGEST, told, filling) == [] for filling in seen))
                for _ in range(60):
                    rule = some_rule(dice, LARGEST, 0.97)
                    self.assertIs(follows(LARGEST, told, rule), all(rule_keeps(rule, one) for one in seen))
                self.assertTrue(all(follows(LARGEST, told, rule) for rule in book))
        seen = [some_part(dice, LARGEST, fill=1) for _ in range(100)]
        self.assertEqual(learned(LARGEST, seen), ())
        self.assertEqual(len(learned(LARGEST, [(value,) * 8 for value in (0, 4)] * 50)), 36)


class RuleBooks(unittest.TestCase):

    def test_joined_to_forty_rules(self):
        for one, other in zip(TWENTY, TWENTY[1:] + TWENTY[:1]):
            both = RuleBook(LARGEST, *one) & RuleBook(LARGEST, *other)
            self.assertEqual((len(both), both.rules), (40, one + other))
            least = first_kept(LARGEST, one + other)
            self.assertIs(bool(both), least is not None)
            self.assertIs(both <= RuleBook(LARGEST, *one), True)
            self.assertIs(both <= RuleBook(LARGEST, *other), True)
            self.assertIs(both == RuleBook(LARGEST, *other, *one), True)
            self.assertIs(both < RuleBook(LARGEST, *one), not alike(LARGEST, one, one + other))
            self.assertTrue(least is None or least in both)
            self.assertIs(both.lean() == both, True)
            self.assertIs(bool(both.only((2, 5))), least is not None)
            for at in (0, 19, 20, 39):
                self.assertEqual(both[at], (one + other)[at])

    def test_twice_the_same_forty(self):
        for rules in TWENTY[:8]:
            book = RuleBook(LARGEST, *rules)
            twice = book & book
            self.assertIs(twice == book and twice <= book and book <= twice, True)
            self.assertIs(twice < book or book < twice or twice != book, False)
            self.assertEqual(needless(LARGEST, twice.rules), list(range(40)))
            self.assertEqual(twice.lean().rules, book.lean().rules)
            self.assertEqual([finished(LARGEST, twice.rules)], list(fillings(LARGEST, rules, most=1)))

    def test_what_is_filled_in_bit_by_bit(self):
        for rules in TWENTY[:8]:
            book, filling = RuleBook(LARGEST, *rules), first_kept(LARGEST, rules)
            for field, value in enumerate(filling):
                book = book.at(field, value)
                self.assertIs(bool(book), True)
            self.assertEqual(len(book), 28)
            self.assertEqual([one for one in fillings(LARGEST, book.rules)], [filling])
            self.assertIs(book == RuleBook.told_by(LARGEST, [filling]), True)
            self.assertTrue(part_agrees(filling, finished(LARGEST, book.rules)))


if __name__ == "__main__":
    unittest.main()
