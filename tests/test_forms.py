"""[15] Forms."""

import inspect
import random
import unittest
from itertools import permutations, product

from eitherfields import forms
from eitherfields.books import RuleBook
from eitherfields.errors import (
    Barred, FieldError, InvalidBook, InvalidEntry, InvalidField, InvalidSheet, NoBlock, NothingToClear, NothingToUndo)
from eitherfields.forms import Form, KeenForm, StrictForm, StrictKeenForm
from tests.forms_told import (
    CLASSES, KEEN, STRICT, Told, all_back, all_back_told, left_of, look, looks_the_same, put, stuck_told)
from tests.helpers import all_choices, all_parts, any_values, cases, copied, keeping, same
from tests.wrong import ERRORS, few_wrong_values, wrong_values

SHEET = (3, 3, 2)
BOOK = (("either", 0, 0, 1, 2), ("match", 1, 2, ((0, 1), (2, 0))))
UNKEPT = BOOK + (("among", 1, ()),)
CASES = cases(7, many_books=5)
WORDS = ["choose"] * 6 + ["clear"] * 3 + ["undo"] * 3 + ["begin"] * 2 + ["finish"] * 2 + ["twin"]
METHODS = {
    Form: ["__init__", "sheet", "book", "part", "choices", "choose", "clear", "undo", "options", "stuck", "__len__",
           "__getitem__", "begin", "finish", "twin"],
    StrictForm: ["__init__", "choose", "twin"],
    KeenForm: ["__init__", "part", "choices", "choose", "clear", "options", "stuck", "__len__", "__getitem__", "twin"],
    StrictKeenForm: ["__init__", "part", "choices", "choose", "clear", "options", "stuck", "__len__", "__getitem__",
                     "twin"]}


def filled_form(kind, sheet, book, choices):
    form = kind(sheet, book)
    for field, value in choices:
        form.choose(field, value)
    return form


class FormTest(unittest.TestCase):

    def raises(self, error, deed):
        with self.assertRaises(FieldError) as caught:
            deed()
        self.assertIs(type(caught.exception), error)
        return caught.exception

    def raises_and_changes_nothing(self, error, form, deed):
        before = look(form)
        caught = self.raises(error, deed)
        self.assertTrue(same(look(form), before))
        return caught


class Made(FormTest):

    def test_empty(self):
        for kind in CLASSES:
            for book in ((), BOOK, UNKEPT):
                form = kind(SHEET, book)
                self.assertIs(type(form), kind)
                self.assertEqual((form.sheet, form.book, form.choices), (SHEET, book, []))
                self.assertEqual((form.part, len(form)), ((None, None, None), 0))
                self.assertEqual([form[field] for field in range(3)], [None] * 3)
                self.raises(NothingToUndo, form.undo)
                self.raises(NoBlock, form.finish)

    def test_by_name_and_by_position(self):
        for kind in CLASSES:
            self.assertEqual(list(inspect.signature(kind).parameters), ["sheet", "book"])
            for form in (kind(sheet=SHEET, book=BOOK), kind(book=BOOK, sheet=SHEET), kind(SHEET, book=BOOK)):
                self.assertEqual((form.sheet, form.book), (SHEET, BOOK))
            for deed in (lambda: kind(), lambda: kind(SHEET), lambda: kind(SHEET, BOOK, None)):
                with self.assertRaises(TypeError):
                    deed()

    def test_the_classes(self):
        self.assertEqual(Form.__bases__, (object,))
        self.assertEqual((StrictForm.__bases__, KeenForm.__bases__), ((Form,), (Form,)))
        self.assertTrue(issubclass(StrictKeenForm, StrictForm) and issubclass(StrictKeenForm, KeenForm))
        for kind, names in METHODS.items():
            self.assertEqual(kind.__module__, forms.__name__)
            for name in names:
                self.assertIn(name, vars(kind), (kind, name))
                if name in ("sheet", "book", "part", "choices"):
                    self.assertIsInstance(vars(kind)[name], property)
        for kind in CLASSES:
            for method, names in ((kind.choose, ["field", "entry"]), (kind.options, ["field"]), (kind.undo, []),
                                  (kind.stuck, []), (kind.begin, []), (kind.finish, []), (kind.twin, [])):
                self.assertEqual(list(inspect.signature(method).parameters), ["self", *names])
            self.assertEqual(len(inspect.signature(kind.clear).parameters), 2)

    def test_methods_by_name(self):
        for kind in CLASSES:
            form = kind(SHEET, BOOK)
            self.assertIsNone(form.choose(entry=1, field=0))
            self.assertEqual(form.choose(0, entry=2), 1)
            self.assertEqual(form.options(field=1), [2])
            self.assertEqual(form.clear(0), 2)

    def test_properties_are_not_assigned(self):
        for kind in CLASSES:
            for name in ("sheet", "book", "part", "choices"):
                with self.assertRaises(AttributeError):
                    setattr(kind(SHEET, BOOK), name, ())

    def test_not_compared_by_what_is_in_them_and_not_iterated_over(self):
        for kind in CLASSES:
            form, other = kind(SHEET, BOOK), kind(SHEET, BOOK)
            self.assertIs(form == other, False)
            self.assertIs(form != other, True)
            self.assertIs(form == form, True)
            self.assertEqual({form: 1, other: 2}[form], 1)
            for deed in (iter, list, tuple, lambda value: [*value], lambda value: 0 in value):
                with self.assertRaises(TypeError):
                    deed(filled_form(kind, SHEET, BOOK, [(0, 0)]))


class Errors(FormTest):

    def test_each_wrong_parameter_of_the_class(self):
        for kind in CLASSES:
            for wrong in wrong_values("sheet"):
                self.raises(InvalidSheet, lambda: kind(wrong, BOOK))
                self.raises(InvalidSheet, lambda: kind(book=None, sheet=wrong))
            for wrong in wrong_values("book"):
                self.raises(InvalidBook, lambda: kind(SHEET, wrong))
            self.raises(InvalidBook, lambda: kind((2, 3), (("match", 0, 1, ((2, 0),)),)))
            self.raises(InvalidBook, lambda: kind(SHEET, RuleBook(SHEET, *BOOK)))

    def test_each_wrong_parameter_of_the_methods(self):
        for kind in CLASSES:
            form = filled_form(kind, SHEET, BOOK, [(0, 1), (1, 2)])
            for wrong in wrong_values("field"):
                for deed in (lambda: form.choose(wrong, 0), lambda: form.choose(wrong, None),
                             lambda: form.choose(entry=9, field=wrong), lambda: form.clear(wrong),
                             lambda: form.options(wrong), lambda: form[wrong]):
                    self.raises(InvalidField, deed)
            for wrong in wrong_values("entry"):
                self.raises(InvalidEntry, lambda: form.choose(1, wrong))
            for field in range(3):
                self.raises(InvalidEntry, lambda: form.choose(field, SHEET[field]))
            for wrong in (slice(None), slice(0, 1), -1, -3, 3):
                self.raises(InvalidField, lambda: form[wrong])
            self.assertTrue(same(form.choices, [(0, 1), (1, 2)]))
            self.assertEqual([row[0] if type(row) is tuple else row for row in all_back(form)],
                             ["choose", "choose", "NothingToUndo"])

    def test_the_first_wrong_one_of_several(self):
        for kind in CLASSES:
            for call, parameters in ((kind, [("sheet", SHEET), ("book", BOOK)]),
                                     (kind(SHEET, BOOK).choose, [("field", 1), ("entry", 0)])):
                names = [name for name, _ in parameters]
                for row in product(*[[value] + few_wrong_values(name) for name, value in parameters]):
                    wrong = [name for (name, right), value in zip(parameters, row) if not same(right, value)]
                    if wrong:
                        self.raises(ERRORS[wrong[0]], lambda: call(**dict(zip(names, row))))

    def test_errors_of_parameters_ahead_of_the_others(self):
        for kind in CLASSES:
            for book in (BOOK, UNKEPT):
                form = kind(SHEET, book)
                self.raises_and_changes_nothing(InvalidField, form, lambda: form.clear(3))
                self.raises_and_changes_nothing(NothingToClear, form, lambda: form.clear(2))
                self.raises_and_changes_nothing(InvalidField, form, lambda: form.choose(3, 9))
                self.raises_and_changes_nothing(InvalidEntry, form, lambda: form.choose(1, 3))
        for kind in STRICT:
            form = kind(SHEET, UNKEPT)
            self.raises(InvalidField, lambda: form.choose(True, 0))
            self.raises(InvalidEntry, lambda: form.choose(0, True))
            self.raises(Barred, lambda: form.choose(0, 0))


class AllParts(FormTest):
    """Each part of small sheets, filled in in some sequence."""

    def reached(self, kind, sheet, book, kept, part, dice):
        """A form with the part and what is told of it, None where a strict one does not take it."""
        choices = [(field, value) for field, value in enumerate(part) if value is not None]
        if kind in STRICT and choices and not left_of(kept, part):
            return None
        dice.shuffle(choices)
        told = Told(kind, sheet, book, kept)
        for field, value in choices:
            told.choose(field, value)
        return filled_form(kind, sheet, book, choices), told

    def test_all_that_is_seen(self):
        dice = random.Random(1)
        for sheet, book, kept in CASES:
            for kind in CLASSES:
                for part in dice.sample(all_parts(sheet), min(20, len(all_parts(sheet)))):
                    reached = self.reached(kind, sheet, book, kept, part, dice)
                    if reached is not None:
                        self.assertTrue(looks_the_same(*reached), (kind, sheet, book, part))

    def test_each_part_of_a_few_books(self):
        dice = random.Random(2)
        for sheet, book, kept in CASES[:21] + CASES[21::9]:
            for kind in CLASSES:
                for part in all_parts(sheet):
                    reached = self.reached(kind, sheet, book, kept, part, dice)
                    if reached is not None:
                        self.assertTrue(looks_the_same(*reached), (kind, sheet, book, part))

    def test_each_choice_that_is_barred(self):
        dice = random.Random(3)
        seen = set()
        for sheet, book, kept in CASES:
            for kind in STRICT:
                for part in dice.sample(all_parts(sheet), min(5, len(all_parts(sheet)))):
                    reached = self.reached(kind, sheet, book, kept, part, dice)
                    if reached is None:
                        continue
                    form, told = reached
                    for field, value in all_choices(sheet):
                        fields = told.barred(field, value)
                        if fields is None:
                            form.choose(field, value)
                            form.undo()
                            continue
                        error = self.raises(Barred, lambda: form.choose(field, value))
                        self.assertTrue(same(error.fields, fields), (kind, sheet, book, part, field, value))
                        seen.add(len(fields))
                    self.assertTrue(looks_the_same(form, told))
                    self.assertTrue(same(all_back(form), all_back_told(told)))
        self.assertEqual(seen, {0, 1, 2})


class Walks(FormTest):
    """Many deeds in any sequence, each beside what is told of it."""

    def step(self, dice, form, told):
        """Does one deed; returns the form and what is told of it with which the walk goes on."""
        word = dice.choice(WORDS)
        field = dice.randrange(len(told.sheet))
        value = dice.randrange(told.sheet[field])
        if word == "choose":
            self.choose(form, told, field, value)
        elif word == "clear" and told.chosen()[field] is None:
            self.raises(NothingToClear, lambda: form.clear(field))
        elif word == "clear":
            self.assertTrue(same(form.clear(field), told.clear(field)))
        elif word == "undo" and not told.can_undo():
            self.raises(NothingToUndo, form.undo)
        elif word == "undo":
            self.assertEqual(form.undo(), told.undo())
        elif word == "begin" and len(told.levels) < 20:
            self.assertIsNone(form.begin())
            told.begin()
        elif word == "finish" and len(told.levels) == 1:
            self.raises(NoBlock, form.finish)
        elif word == "finish":
            self.assertIsNone(form.finish())
            told.finish()
        elif word == "twin":
            return self.twinned(dice, form, told)
        return form, told

    def choose(self, form, told, field, value):
        fields = told.barred(field, value)
        if fields is None:
            self.assertTrue(same(form.choose(field, value), told.choose(field, value)))
        else:
            error = self.raises(Barred, lambda: form.choose(field, value))
            self.assertTrue(same(error.fields, fields))

    def twinned(self, dice, form, told):
        twin, told_twin = form.twin(), told.twin()
        self.assertIs(type(twin), type(form))
        self.assertTrue(looks_the_same(twin, told_twin))
        if dice.random() < 0.5:
            self.assertTrue(same(all_back(twin), all_back_told(told_twin)))
            return form, told
        return twin, told_twin

    def test_many_deeds(self):
        dice = random.Random(4)
        for sheet, book, kept in CASES:
            for kind in CLASSES:
                form, told = kind(sheet, book), Told(kind, sheet, book, kept)
                for _ in range(25):
                    form, told = self.step(dice, form, told)
                    self.assertTrue(looks_the_same(form, told), (kind, sheet, book))
                while len(told.levels) > 1:
                    form.finish()
                    told.finish()
                self.assertTrue(same(all_back(form), all_back_told(told)), (kind, sheet, book))

    def test_long_walks(self):
        dice = random.Random(5)
        for sheet, book in ((SHEET, BOOK), (SHEET, ()), ((2, 2, 2), (("either", 0, 1, 2, 0),)), (SHEET, UNKEPT)):
            for kind in CLASSES:
                form, told = kind(sheet, book), Told(kind, sheet, book, keeping(sheet, book))
                for _ in range(600):
                    form, told = self.step(dice, form, told)
                    self.assertTrue(looks_the_same(form, told), (kind, sheet, book))

    def test_walking_by_options_comes_to_no_dead_end(self):
        for sheet, book, kept in CASES:
            for kind in CLASSES:
                if kept:
                    self.walk_by_options(kind(sheet, book), kept)

    def walk_by_options(self, form, kept):
        dice = random.Random(6)
        fields = list(range(len(form.sheet)))
        for _ in range(3):
            dice.shuffle(fields)
            form.begin()
            for field in fields:
                value = dice.choice(form.options(field))
                form.choose(field, value)
                self.assertIsNone(form.stuck())
            self.assertIn(form.part, kept)
            for field in fields:
                self.assertIn(form.part[field], form.options(field))
            form.finish()

    def test_each_way_by_options_through_small_books(self):
        for sheet, book, kept in CASES[:21]:
            for kind in CLASSES:
                for fields in permutations(range(len(sheet))) if kept else ():
                    self.each_way(kind(sheet, book), kept, list(fields))

    def each_way(self, form, kept, fields):
        if not fields:
            self.assertIn(form.part, kept)
            return
        options = form.options(fields[0])
        self.assertNotEqual(options, [])
        for value in options:
            form.begin()
            form.choose(fields[0], value)
            self.each_way(form, kept, fields[1:])
            form.finish()


class Choices(FormTest):

    def test_choose_in_an_empty_field_and_in_a_filled_one(self):
        for kind in CLASSES:
            form = kind(SHEET, ())
            self.assertIsNone(form.choose(1, 2))
            self.assertIsNone(form.choose(0, 1))
            self.assertEqual((form.part, form.choices), ((1, 2, None), [(1, 2), (0, 1)]))
            self.assertEqual(form.choose(1, 0), 2)
            self.assertEqual((form.part, form.choices), ((1, 0, None), [(0, 1), (1, 0)]))
            self.assertEqual((len(form), form[0], form[1], form[2]), (2, 1, 0, None))

    def test_the_value_that_is_there_already(self):
        for kind in CLASSES:
            form = filled_form(kind, SHEET, (), [(1, 2), (0, 0)])
            self.assertEqual(form.choose(1, 2), 2)
            self.assertEqual(form.choices, [(0, 0), (1, 2)])
            self.assertEqual(form.choose(1, 2), 2)
            self.assertEqual((form.part, form.choices), ((0, 2, None), [(0, 0), (1, 2)]))
            self.assertEqual(form.undo(), "choose")
            self.assertEqual(form.choices, [(0, 0), (1, 2)])
            self.assertEqual(form.undo(), "choose")
            self.assertEqual(form.choices, [(1, 2), (0, 0)])
            self.assertEqual([form.undo(), form.undo()], ["choose", "choose"])
            self.raises(NothingToUndo, form.undo)

    def test_zero_is_a_value(self):
        for kind in CLASSES:
            form = kind(SHEET, ())
            self.assertIsNone(form.choose(0, 0))
            self.assertEqual((form.part, len(form), form[0]), ((0, None, None), 1, 0))
            self.assertTrue(same(form.choose(0, 0), 0))
            self.assertTrue(same(form.clear(0), 0))
            self.raises(NothingToClear, lambda: form.clear(0))

    def test_clear_and_undo(self):
        for kind in CLASSES:
            form = filled_form(kind, SHEET, (), [(2, 1), (0, 2), (1, 1)])
            self.assertEqual(form.clear(0), 2)
            self.assertEqual((form.part, form.choices), ((None, 1, 1), [(2, 1), (1, 1)]))
            self.raises_and_changes_nothing(NothingToClear, form, lambda: form.clear(0))
            self.assertEqual(form.choose(2, 0), 1)
            self.assertEqual(form.choices, [(1, 1), (2, 0)])
            self.assertEqual(form.undo(), "choose")
            self.assertEqual(form.choices, [(2, 1), (1, 1)])
            self.assertEqual(form.undo(), "clear")
            self.assertEqual((form.part, form.choices), ((2, 1, 1), [(2, 1), (0, 2), (1, 1)]))
            self.assertEqual([form.undo() for _ in range(3)], ["choose"] * 3)
            self.assertEqual((form.part, form.choices), ((None, None, None), []))
            self.raises_and_changes_nothing(NothingToUndo, form, form.undo)

    def test_a_deed_that_was_taken_back_is_not_taken_back_again(self):
        for kind in CLASSES:
            form = filled_form(kind, SHEET, (), [(0, 0), (0, 1)])
            form.undo()
            form.choose(1, 1)
            self.assertEqual([form.undo(), form.choices], ["choose", [(0, 0)]])
            self.assertEqual([form.undo(), form.choices], ["choose", []])
            self.raises(NothingToUndo, form.undo)

    def test_choices_is_a_new_list(self):
        for kind in CLASSES:
            form = filled_form(kind, SHEET, (), [(0, 0), (1, 1)])
            before = look(form)
            for _ in range(2):
                form.choices.clear()
                form.choices.append((2, 1))
                form.options(0).clear()
                self.assertTrue(same(look(form), before))
            kept = form.choices
            form.choose(2, 1)
            form.undo()
            form.undo()
            self.assertEqual(kept, [(0, 0), (1, 1)])

    def test_options_whatever_is_in_the_field(self):
        for kind in (Form, KeenForm):
            form = filled_form(kind, SHEET, BOOK, [(0, 1), (1, 0)])
            self.assertEqual((form.stuck(), form.options(0), form.options(1), form.options(2)), ((0, 1), [0], [2], []))
            form.choose(1, 1)
            self.assertEqual((form.stuck(), form.options(0), form.options(1), form.options(2)), ((1,), [], [2], []))
            form.clear(1)
            self.assertEqual((form.stuck(), form.options(0), form.options(1), form.options(2)),
                             (None, [0, 1, 2], [2], [0]))
        for kind in CLASSES:
            form = kind(SHEET, UNKEPT)
            self.assertEqual((form.stuck(), [form.options(field) for field in range(3)]), ((), [[], [], []]))

    def test_two_forms_have_nothing_of_each_other(self):
        for kind in CLASSES:
            one, other = kind(SHEET, BOOK), kind(SHEET, BOOK)
            one.choose(0, 1)
            one.begin()
            self.assertEqual((other.choices, len(other)), ([], 0))
            self.raises(NothingToUndo, other.undo)
            self.raises(NoBlock, other.finish)

    def test_arguments_are_left_as_they_are(self):
        for kind in CLASSES:
            for sheet, book in ((SHEET, BOOK), (SHEET, UNKEPT), (list(SHEET), BOOK), (SHEET, list(BOOK))):
                before = copied((sheet, book))
                try:
                    filled_form(kind, sheet, book, [(0, 0)])
                except FieldError:
                    pass
                self.assertTrue(same((sheet, book), before))
            form = kind(SHEET, BOOK)
            for value in any_values():
                before = copied(value)
                for deed in (lambda: form.choose(value, value), lambda: form.clear(value), lambda: form[value]):
                    try:
                        deed()
                    except FieldError:
                        pass
                    self.assertTrue(same(value, before))


class Blocks(FormTest):

    def test_finish_puts_back(self):
        for kind in CLASSES:
            form = filled_form(kind, SHEET, (), [(0, 1), (1, 1)])
            before = look(form)
            self.assertIsNone(form.begin())
            self.assertTrue(same(look(form), before))
            form.choose(0, 2)
            form.clear(1)
            form.choose(2, 0)
            self.assertIsNone(form.finish())
            self.assertTrue(same(look(form), before))
            self.raises_and_changes_nothing(NoBlock, form, form.finish)
            self.assertEqual([form.undo(), form.choices], ["choose", [(0, 1)]])
            self.assertEqual([form.undo(), form.choices], ["choose", []])
            self.raises(NothingToUndo, form.undo)

    def test_undo_inside_takes_back_only_what_was_done_inside(self):
        for kind in CLASSES:
            form = filled_form(kind, SHEET, (), [(0, 1)])
            form.begin()
            self.raises_and_changes_nothing(NothingToUndo, form, form.undo)
            form.clear(0)
            form.choose(1, 0)
            self.assertEqual([form.undo(), form.undo()], ["choose", "clear"])
            self.raises_and_changes_nothing(NothingToUndo, form, form.undo)
            form.choose(2, 1)
            form.finish()
            self.assertEqual((form.choices, form.undo()), ([(0, 1)], "choose"))
            self.raises(NothingToUndo, form.undo)

    def test_what_was_taken_back_ahead_of_a_block(self):
        for kind in CLASSES:
            form = filled_form(kind, SHEET, (), [(0, 1), (1, 1), (2, 1)])
            form.undo()
            form.begin()
            form.clear(0)
            form.finish()
            self.assertEqual([form.undo(), form.choices], ["choose", [(0, 1)]])
            form.begin()
            self.raises(NothingToUndo, form.undo)
            form.finish()
            self.assertEqual([form.undo(), form.choices], ["choose", []])

    def test_nested_to_twenty(self):
        for kind in CLASSES:
            form, looks = kind((5,) * 8, ()), []
            for depth in range(20):
                looks.append(look(form))
                form.begin()
                self.raises_and_changes_nothing(NothingToUndo, form, form.undo)
                form.choose(depth % 8, depth % 5)
                form.choose(depth % 7, depth % 3)
                form.undo()
                if depth % 3 == 0:
                    form.clear(depth % 8)
            for depth in reversed(range(20)):
                words = [row[0] for row in all_back(form)[:-1]]
                self.assertEqual(words, ["clear", "choose"] if depth % 3 == 0 else ["choose"])
                self.assertTrue(same(look(form), looks[depth]))
                form.choose(0, 4)
                form.finish()
                self.assertTrue(same(look(form), looks[depth]))
            self.raises(NoBlock, form.finish)

    def test_an_error_inside_of_a_block_ends_nothing(self):
        for kind in CLASSES:
            form = filled_form(kind, SHEET, BOOK, [(0, 1)])
            form.begin()
            form.choose(1, 2)
            for error, deed in ((InvalidField, lambda: form.choose(3, 0)), (InvalidEntry, lambda: form.choose(0, 3)),
                                (NothingToClear, lambda: form.clear(2))):
                self.raises_and_changes_nothing(error, form, deed)
            if kind in STRICT:
                self.raises_and_changes_nothing(Barred, form, lambda: form.choose(2, 1))
            self.assertEqual(form.undo(), "choose")
            self.raises(NothingToUndo, form.undo)
            form.finish()
            self.raises(NoBlock, form.finish)
            self.assertEqual(form.undo(), "choose")


class Twins(FormTest):

    def test_a_twin_is_independent(self):
        for kind in CLASSES:
            form = filled_form(kind, SHEET, BOOK, [(0, 0), (1, 2)])
            twin = form.twin()
            before = look(form)
            self.assertIs(type(twin), kind)
            self.assertTrue(same(look(twin), before))
            twin.choose(2, 0)
            twin.clear(0)
            twin.begin()
            self.assertTrue(same(look(form), before))
            self.raises(NoBlock, form.finish)
            behind = look(twin)
            form.clear(1)
            form.undo()
            form.undo()
            self.assertTrue(same(look(twin), behind))
            self.raises(NothingToUndo, twin.undo)
            twin.finish()
            self.assertEqual([twin.undo() for _ in range(4)], ["clear", "choose", "choose", "choose"])
            self.raises(NothingToUndo, twin.undo)
            self.assertEqual((twin.choices, form.choices), ([], [(0, 0)]))

    def test_a_twin_is_outside_of_all_blocks_and_takes_back_each_deed(self):
        for kind in CLASSES:
            form = filled_form(kind, SHEET, (), [(0, 1)])
            form.begin()
            form.choose(1, 1)
            form.begin()
            form.clear(0)
            form.choose(2, 1)
            form.undo()
            form.begin()
            twin = form.twin()
            self.raises(NoBlock, twin.finish)
            self.raises(NothingToUndo, form.undo)
            self.assertEqual(twin.choices, [(1, 1)])
            self.assertEqual([twin.undo(), twin.choices], ["clear", [(0, 1), (1, 1)]])
            self.assertEqual([twin.undo(), twin.choices], ["choose", [(0, 1)]])
            self.assertEqual([twin.undo(), twin.choices], ["choose", []])
            self.raises(NothingToUndo, twin.undo)
            for choices in ([(1, 1)], [(0, 1), (1, 1)], [(0, 1)]):
                form.finish()
                self.assertEqual(form.choices, choices)
            self.raises(NoBlock, form.finish)
            self.assertEqual([form.undo(), form.choices], ["choose", []])

    def test_a_twin_has_no_deeds_of_blocks_that_have_ended(self):
        for kind in CLASSES:
            form = filled_form(kind, SHEET, (), [(0, 1)])
            form.begin()
            form.choose(0, 2)
            form.finish()
            twin = form.twin()
            self.assertEqual((twin.choices, twin.undo(), twin.choices), ([(0, 1)], "choose", []))
            self.raises(NothingToUndo, twin.undo)

    def test_a_twin_of_a_twin(self):
        for kind in CLASSES:
            form = filled_form(kind, SHEET, BOOK, [(0, 0)])
            form.begin()
            form.choose(1, 0)
            twin = form.twin().twin()
            self.assertIs(type(twin), kind)
            self.assertTrue(same(look(twin), look(form)))
            self.assertEqual([twin.undo(), twin.undo()], ["choose", "choose"])

    def test_a_twin_bars_and_fills_in_as_its_class_does(self):
        for kind in CLASSES:
            twin = filled_form(kind, SHEET, BOOK, [(0, 1)]).twin()
            self.assertEqual(twin.part, (1, 2, 0) if kind in KEEN else (1, None, None))
            if kind in STRICT:
                self.assertEqual(self.raises(Barred, lambda: twin.choose(1, 0)).fields, (0, 1))
            else:
                twin.choose(1, 0)
                self.assertEqual((twin.stuck(), twin.part), ((0, 1), (1, 0, None)))


class Strict(FormTest):

    def test_barred(self):
        for kind in STRICT:
            form = filled_form(kind, SHEET, BOOK, [(0, 1)])
            for field, value, fields in ((1, 1, (1,)), (1, 0, (0, 1)), (2, 1, (0, 2))):
                error = self.raises_and_changes_nothing(Barred, form, lambda: form.choose(field, value))
                self.assertTrue(same(error.fields, fields))
            self.assertEqual(form.choose(0, 0), 1)
            self.assertIsNone(form.choose(1, 0))
            error = self.raises_and_changes_nothing(Barred, form, lambda: form.choose(0, 2))
            self.assertEqual(error.fields, (0, 1))
            self.assertEqual(form.choices, [(0, 0), (1, 0)])
            self.assertEqual([form.undo(), form.undo(), form.undo()], ["choose"] * 3)
            self.raises(NothingToUndo, form.undo)

    def test_a_book_that_is_not_keepable_bars_each_choice(self):
        for kind in STRICT:
            for book in (UNKEPT, (("among", 2, ()),), (("among", 0, (0,)), ("among", 0, (1,)))):
                form = kind(SHEET, book)
                for field, value in all_choices(SHEET):
                    error = self.raises_and_changes_nothing(Barred, form, lambda: form.choose(field, value))
                    self.assertEqual(error.fields, ())
                self.raises(NothingToUndo, form.undo)
                self.assertEqual(form.stuck(), ())

    def test_the_value_that_is_there_already_is_not_barred(self):
        for kind in STRICT:
            form = filled_form(kind, SHEET, BOOK, [(0, 1), (2, 0)])
            self.assertEqual(form.choose(0, 1), 1)
            self.assertEqual(form.choices, [(2, 0), (0, 1)])


class Keen(FormTest):

    def test_what_is_sure(self):
        for kind in KEEN:
            form = kind(SHEET, BOOK)
            self.assertEqual((form.part, len(form)), ((None, None, None), 0))
            form.choose(0, 1)
            self.assertEqual((form.part, len(form), form.choices), ((1, 2, 0), 3, [(0, 1)]))
            self.assertEqual([form[field] for field in range(3)], [1, 2, 0])
            self.assertEqual([form.options(field) for field in range(3)], [[0, 1, 2], [2], [0]])
            self.assertIsNone(form.stuck())

    def test_what_is_sure_is_not_chosen(self):
        for kind in KEEN:
            form = filled_form(kind, SHEET, BOOK, [(0, 1)])
            for field in (1, 2):
                self.raises_and_changes_nothing(NothingToClear, form, lambda: form.clear(field))
            self.assertIsNone(form.choose(1, 2))
            self.assertEqual((form.choices, form.choose(1, 2), form.clear(1)), ([(0, 1), (1, 2)], 2, 2))
            self.assertEqual((form.part, form.clear(0), form.part), ((1, 2, 0), 1, (None, None, None)))

    def test_what_is_sure_without_a_choice(self):
        for kind in KEEN:
            form = kind(SHEET, BOOK + (("among", 1, (0,)),))
            self.assertEqual((form.part, len(form), form.choices), ((0, 0, 1), 3, []))
            for field in range(3):
                self.raises_and_changes_nothing(NothingToClear, form, lambda: form.clear(field))
            self.raises(NothingToUndo, form.undo)
            form = kind((1, 2), ())
            self.assertEqual((form.part, form[0], form[1], len(form)), ((0, None), 0, None, 1))
            self.assertIsNone(form.choose(0, 0))
            self.assertEqual(form.clear(0), 0)

    def test_choices_that_cannot_be_finished(self):
        form = filled_form(KeenForm, SHEET, BOOK, [(0, 1), (2, 1)])
        self.assertEqual((form.part, len(form), form[1], form.stuck()), ((1, None, 1), 2, None, (0, 2)))
        form.undo()
        self.assertEqual((form.part, form.stuck()), ((1, 2, 0), None))
        form = filled_form(KeenForm, (1, 3), (("among", 1, (2,)),), [(1, 0)])
        self.assertEqual((form.part, len(form), form.stuck()), ((None, 0), 1, (1,)))
        form = KeenForm((1, 1), (("among", 0, ()),))
        self.assertEqual((form.part, len(form), form.stuck()), ((None, None), 0, ()))
        form.choose(1, 0)
        self.assertEqual((form.part, len(form), form.stuck()), ((None, 0), 1, ()))

    def test_a_sure_value_that_another_one_takes_the_place_of(self):
        form = filled_form(KeenForm, SHEET, BOOK, [(0, 1)])
        self.assertIsNone(form.choose(1, 0))
        self.assertEqual((form.part, form.choices, form.stuck()), ((1, 0, None), [(0, 1), (1, 0)], (0, 1)))
        form = filled_form(StrictKeenForm, SHEET, BOOK, [(0, 1)])
        error = self.raises_and_changes_nothing(Barred, form, lambda: form.choose(1, 0))
        self.assertEqual(error.fields, (0, 1))

    def test_who_is_to_blame_are_choices_alone(self):
        book = (("match", 0, 1, ((0, 0), (1, 1))), ("match", 1, 2, ((0, 0), (1, 1))))
        form = filled_form(StrictKeenForm, (2, 2, 2), book, [(0, 0)])
        self.assertEqual((form.part, stuck_told(keeping((2, 2, 2), book), put(form.part, 2, 1))), ((0, 0, 0), (0, 2)))
        self.assertEqual(self.raises(Barred, lambda: form.choose(2, 1)).fields, (0, 2))
        form = filled_form(StrictKeenForm, (2, 2, 2), book, [(2, 0)])
        self.assertEqual(self.raises(Barred, lambda: form.choose(1, 1)).fields, (1, 2))
        form = filled_form(KeenForm, (2, 2, 2), book, [(2, 0), (1, 1)])
        self.assertEqual(form.stuck(), (1, 2))


if __name__ == "__main__":
    unittest.main()
