"""[15] [16] [17] Forms, words and the console beside the functions of [10] to [14], with books that these return."""

import random
import unittest

from eitherfields.books import RuleBook, alike, follows, learned, only
from eitherfields.console import Console
from eitherfields.errors import Barred, InvalidCommand, Unkeepable
from eitherfields.following import followed
from eitherfields.forms import Form, KeenForm, StrictForm, StrictKeenForm
from eitherfields.keeping import fillings, finished, keepable
from eitherfields.pairs import barring, can_be, essence, stuck, sure
from eitherfields.sheets import agrees, broken, is_book, is_part
from eitherfields.words import read_book, read_part, read_rule, write_book, write_part, write_rule
from tests.forms_told import CLASSES, KEEN, STRICT, put
from tests.helpers import LARGEST, all_choices, cases, part_agrees, same, some_part, some_rule, tried
from tests.test_largest import RING, TWENTY, WIDE
from tests.words_told import LETTERS


def returned_books():
    """Pairs (sheet, book) that the package returns: most have more than 20 rules, some fields numbered anew."""
    found = []
    for book, other in zip(TWENTY + [RING, WIDE], TWENTY[-1:] + TWENTY + [RING]):
        told = essence(LARGEST, book)
        joined = RuleBook(LARGEST, *book) & RuleBook(LARGEST, *other)
        found += [] if told is None else [(LARGEST, told), (LARGEST, (RuleBook(LARGEST, *told) & joined).rules)]
        found += [(LARGEST, joined.rules), (LARGEST, read_book(LARGEST, write_book(LARGEST, book)))]
        found.append(only(LARGEST, book, (0, 2, 3, 6)))
        found.append(only(LARGEST, book, (1, 2, 3, 4, 5, 6, 7)))
    dice = random.Random(1)
    found.append((LARGEST, learned(LARGEST, [some_part(dice, LARGEST, 1) for _ in range(3)])))
    return found


RETURNED = returned_books()
SMALL = [(sheet, book) for sheet, book, _ in cases(9, many_books=3)]
LARGE = [(LARGEST, book) for book in TWENTY + [RING, WIDE, ()]] + RETURNED


def parts_near(dice, sheet, book, many):
    """Parts of a sheet, of which some can be finished, also where few can."""
    parts = [some_part(dice, sheet, fill) for fill in (0, 0.2, 0.5) for _ in range(many)]
    for filling in list(fillings(sheet, book, most=many)):
        parts.append(tuple(value if dice.random() < 0.5 else None for value in filling))
        parts.append(put(parts[-1], *dice.choice(all_choices(sheet))))
    return parts


class WholeTest(unittest.TestCase):

    def asked(self, seed, many):
        """Triples (sheet, book, part) of small sheets and large ones."""
        dice = random.Random(seed)
        for sheet, book in SMALL + LARGE:
            for part in parts_near(dice, sheet, book, many):
                yield sheet, book, part


class TheBooks(unittest.TestCase):

    def test_what_they_are(self):
        self.assertGreater(max(len(book) for _, book in RETURNED), 60)
        self.assertGreater(len([book for _, book in RETURNED if len(book) > 20]), 20)
        self.assertGreater(len([book for sheet, book in RETURNED if keepable(sheet, book) and len(book) > 20]), 5)
        self.assertGreater(len([book for sheet, book in RETURNED if not keepable(sheet, book)]), 5)
        for sheet, book in RETURNED:
            self.assertIs(is_book(sheet, book), True)


class Forms(WholeTest):

    def filled(self, kind, sheet, book, part):
        """A form with the part; None if it takes the choices in no sequence."""
        form = kind(sheet, book)
        for field, value in enumerate(part):
            if value is not None:
                try:
                    form.choose(field, value)
                except Barred:
                    return None
        return form

    def test_options_and_stuck(self):
        for sheet, book, part in self.asked(1, 1):
            for kind in CLASSES:
                form = self.filled(kind, sheet, book, part)
                if form is None:
                    self.assertIn(kind, STRICT)
                    self.assertIsNone(finished(sheet, book, part))
                    continue
                self.assertTrue(same(form.stuck(), stuck(sheet, book, part)), (kind, sheet, book, part))
                for field, many in enumerate(sheet):
                    wanted = [value for value in range(many)
                              if finished(sheet, book, put(part, field, value)) is not None]
                    self.assertTrue(same(form.options(field), wanted), (kind, sheet, book, part, field))

    def test_what_a_strict_form_bars(self):
        seen = set()
        for sheet, book, part in self.asked(2, 1):
            for kind in STRICT:
                form = self.filled(kind, sheet, book, part)
                for field, value in all_choices(sheet)[::3] if form is not None else ():
                    wanted = stuck(sheet, book, put(part, field, value))
                    try:
                        form.choose(field, value)
                        told = None
                        form.undo()
                    except Barred as error:
                        told = error.fields
                    self.assertTrue(same(told, wanted), (kind, sheet, book, part, field, value))
                    self.assertIs(told is None, value in form.options(field))
                    seen.add(None if told is None else len(told))
        self.assertEqual(seen, {None, 0, 1, 2})

    def test_who_bars_beside_barring(self):
        for sheet, book, part in self.asked(3, 1):
            form = self.filled(StrictForm, sheet, book, part)
            if form is None or not keepable(sheet, book):
                continue
            for field, value in all_choices(sheet)[::4]:
                wanted = barring(sheet, book, part, field, value)
                try:
                    form.choose(field, value)
                    told = None
                    form.undo()
                except Barred as error:
                    told = tuple(other for other in error.fields if other != field)
                self.assertTrue(same(told, wanted), (sheet, book, part, field, value))

    def test_what_a_keen_form_fills_in(self):
        for sheet, book, part in self.asked(4, 1):
            try:
                wanted = tuple(dict(sure(sheet, book, part)).get(field) for field in range(len(sheet)))
            except Unkeepable:
                wanted = part
            for kind in KEEN:
                form = self.filled(kind, sheet, book, part)
                if form is not None:
                    self.assertTrue(same(form.part, wanted), (kind, sheet, book, part))
                    self.assertEqual(len(form), len([value for value in wanted if value is not None]))
                    self.assertEqual([form[field] for field in range(len(sheet))], list(wanted))
                    self.assertEqual(dict(form.choices), {field: value for field, value in enumerate(part)
                                                          if value is not None})

    def test_walking_by_options_to_a_filling(self):
        dice = random.Random(5)
        for sheet, book in LARGE:
            for kind in CLASSES if keepable(sheet, book) else ():
                form, fields = kind(sheet, book), list(range(len(sheet)))
                dice.shuffle(fields)
                for field in fields:
                    form.choose(field, dice.choice(form.options(field)))
                    self.assertIsNone(form.stuck())
                self.assertEqual(broken(sheet, book, form.part), [])
                self.assertEqual(finished(sheet, book, form.part), form.part)
                self.assertEqual(len(form.choices), len(sheet))

    def test_the_least_options_lead_to_the_least_filling(self):
        for sheet, book in LARGE:
            for kind in CLASSES if keepable(sheet, book) else ():
                form = kind(sheet, book)
                for field in range(len(sheet)):
                    form.choose(field, form.options(field)[0])
                self.assertEqual(form.part, finished(sheet, book))

    def test_options_of_an_empty_form_are_what_can_be(self):
        for sheet, book in SMALL + LARGE:
            for kind in CLASSES:
                form = kind(sheet, book)
                for field in range(len(sheet)):
                    self.assertTrue(same(form.options(field), can_be(sheet, book, field)))

    def test_beside_all_fillings_of_the_largest_sheet(self):
        dice = random.Random(6)
        for book in TWENTY[::2] + [RING, WIDE]:
            for part in parts_near(dice, LARGEST, book, 2):
                least = next(tried(LARGEST, book, part), None)
                form, keen = self.filled(Form, LARGEST, book, part), self.filled(KeenForm, LARGEST, book, part)
                self.assertIs(form.stuck() is None, least is not None)
                strict = self.filled(StrictForm, LARGEST, book, part)
                self.assertIs(strict is None, least is None and part != (None,) * 8)
                if least is None:
                    self.assertEqual(keen.part, part)
                    continue
                for field, value in enumerate(keen.part):
                    left = [entry for entry in range(5) if part_agrees(put(part, field, entry), part)
                            and next(tried(LARGEST, book, put(part, field, entry)), None)]
                    self.assertEqual(value, left[0] if len(left) == 1 else None)

    def test_what_is_sure_contains_what_follows(self):
        for sheet, book, part in self.asked(7, 1):
            form = self.filled(StrictKeenForm, sheet, book, part)
            if form is not None and keepable(sheet, book):
                for field, value in enumerate(followed(sheet, book, part)):
                    self.assertIn(form.part[field], [value] if value is not None else [None, *range(sheet[field])])


class Words(WholeTest):

    def test_books_written_and_read_back(self):
        for sheet, book in SMALL + LARGE:
            self.assertTrue(same(read_book(sheet, write_book(sheet, book)), book))
            for rule in book[::5]:
                self.assertTrue(same(read_rule(sheet, write_rule(sheet, rule)), rule))

    def test_a_book_read_back_is_the_same_book(self):
        for sheet, book in RETURNED[::4]:
            back = read_book(sheet, write_book(sheet, book))
            self.assertIs(alike(sheet, back, book), True)
            self.assertIs(RuleBook.of(sheet, back) == RuleBook(sheet, *book), True)
            self.assertEqual(essence(sheet, back), essence(sheet, book))

    def test_parts_written_and_read_back(self):
        for sheet, book, part in self.asked(8, 1):
            self.assertTrue(same(read_part(sheet, write_part(sheet, part)), part))
            self.assertIs(is_part(sheet, read_part(sheet, write_part(sheet, part))), True)


class Consoles(WholeTest):

    def letters(self, fields):
        return " ".join(LETTERS[field] for field in fields)

    def test_commands_beside_the_functions(self):
        dice = random.Random(9)
        for sheet, book, part in self.asked(9, 1):
            told = Console(sheet, book)
            for field, value in enumerate(part):
                if value is not None:
                    self.assertEqual(told.execute(f"choose {LETTERS[field]} {value}"), "-")
            self.assertEqual(told.execute("part"), write_part(sheet, part))
            least = finished(sheet, book, part)
            self.assertEqual(told.execute("finish"), "-" if least is None else write_part(sheet, least))
            blame = stuck(sheet, book, part)
            self.assertEqual(told.execute("stuck"), "none" if blame is None else self.letters(blame) or "book")
            for field, value in all_choices(sheet)[::5]:
                ahead = f"choose {LETTERS[field]} {value}"
                blame = stuck(sheet, book, put(part, field, value))
                self.assertEqual(told.execute("try " + ahead), "-" if part[field] is None else str(part[field]))
                told.execute(ahead)
                self.assertEqual(told.execute("stuck"), "none" if blame is None else self.letters(blame) or "book")
                told.execute("undo")
                options = told.execute("options " + LETTERS[field])
                self.assertIs(str(value) in options.split(" "), blame is None)
            rule = some_rule(dice, sheet, 0.9)
            self.assertEqual(told.execute("follows " + write_rule(sheet, rule)),
                             "yes" if follows(sheet, book, rule) else "no")

    def test_each_rule_of_a_book_follows(self):
        for sheet, book in RETURNED[::3]:
            told = Console(sheet, book)
            for rule in book:
                self.assertEqual(told.execute("follows " + write_rule(sheet, rule)), "yes")
            if len(book) > 1:
                with self.assertRaises(InvalidCommand):
                    told.execute("follows " + write_book(sheet, book))

    def test_what_is_finished_keeps_the_book_and_agrees(self):
        for sheet, book, part in self.asked(10, 1):
            told = Console(sheet, book)
            for field, value in enumerate(part):
                if value is not None:
                    told.execute(f"choose {LETTERS[field]} {value}")
            text = told.execute("finish")
            if text != "-":
                filling = read_part(sheet, text)
                self.assertEqual(broken(sheet, book, filling), [])
                self.assertIs(agrees(sheet, filling, part), True)


if __name__ == "__main__":
    unittest.main()
