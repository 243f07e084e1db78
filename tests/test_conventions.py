"""[2] What holds of every function: its parameters, its errors and what it leaves as it is."""

import inspect
import unittest
from itertools import permutations, product

from eitherfields import books, following, keeping, pairs, sheets, words
from eitherfields.books import alike, because, breaking, follows, lean, learned, needless, only, parting
from eitherfields.errors import (
    FieldError, InvalidBook, InvalidChoice, InvalidEntry, InvalidField, InvalidFilling, InvalidPart, InvalidRule,
    InvalidSheet, InvalidWords, Unkeepable)
from eitherfields.following import clash, followed
from eitherfields.keeping import core, fillings, finished, keepable, paper
from eitherfields.pairs import barring, can_be, essence, shape, stuck, sure
from eitherfields.sheets import (
    agrees, broken, holds, is_book, is_filling, is_part, is_rule, is_sheet, mixed)
from eitherfields.words import read_book, read_part, read_rule, write_book, write_part, write_rule
from tests.helpers import LARGEST, any_values, copied, same
from tests.wrong import BOOK, ERRORS, FILLING, RULE, SHEET, few_wrong_values, wrong_values

PART = (1, None, None)

# For each function its parameters in the sequence of the signature, each with a right argument.
FUNCTIONS = [
    (is_sheet, [("value", SHEET)]),
    (is_rule, [("sheet", SHEET), ("value", RULE)]),
    (is_book, [("sheet", SHEET), ("value", BOOK)]),
    (is_part, [("sheet", SHEET), ("value", (None, 0, None))]),
    (is_filling, [("sheet", SHEET), ("value", FILLING)]),
    (holds, [("sheet", SHEET), ("rule", RULE), ("filling", FILLING)]),
    (broken, [("sheet", SHEET), ("book", BOOK), ("filling", FILLING)]),
    (agrees, [("sheet", SHEET), ("filling", FILLING), ("part", (1, None, 0))]),
    (mixed, [("sheet", SHEET), ("first", FILLING), ("second", (0, 0, 0)), ("third", (2, 2, 1))]),
    (followed, [("sheet", SHEET), ("book", BOOK), ("part", PART)]),
    (clash, [("sheet", SHEET), ("book", BOOK), ("field", 1), ("entry", 1)]),
    (keepable, [("sheet", SHEET), ("book", BOOK)]),
    (paper, [("sheet", SHEET), ("book", BOOK + (("among", 1, (1,)),))]),
    (core, [("sheet", SHEET), ("book", BOOK + (("among", 1, (1,)),))]),
    (finished, [("sheet", SHEET), ("book", BOOK), ("part", PART)]),
    (fillings, [("sheet", SHEET), ("book", BOOK), ("most", 3)]),
    (can_be, [("sheet", SHEET), ("book", BOOK), ("field", 1)]),
    (pairs.pairs, [("sheet", SHEET), ("book", BOOK), ("field", 1), ("other_field", 0)]),
    (shape, [("sheet", SHEET), ("book", BOOK), ("field", 1), ("other_field", 0)]),
    (essence, [("sheet", SHEET), ("book", BOOK)]),
    (sure, [("sheet", SHEET), ("book", BOOK), ("part", PART)]),
    (stuck, [("sheet", SHEET), ("book", BOOK), ("part", (1, 0, None))]),
    (barring, [("sheet", SHEET), ("book", BOOK), ("part", PART), ("field", 1), ("entry", 0)]),
    (follows, [("sheet", SHEET), ("book", BOOK), ("rule", RULE)]),
    (breaking, [("sheet", SHEET), ("book", BOOK[:1]), ("rule", RULE)]),
    (because, [("sheet", SHEET), ("book", BOOK), ("rule", RULE)]),
    (alike, [("sheet", SHEET), ("one", BOOK), ("other", BOOK[:2])]),
    (parting, [("sheet", SHEET), ("one", BOOK), ("other", BOOK[1:])]),
    (needless, [("sheet", SHEET), ("book", BOOK)]),
    (lean, [("sheet", SHEET), ("book", BOOK)]),
    (only, [("sheet", SHEET), ("book", BOOK), ("kept_fields", (0, 2))]),
    (learned, [("sheet", SHEET), ("seen", [FILLING, (0, 0, 0)])]),
    (write_rule, [("sheet", SHEET), ("rule", RULE)]),
    (read_rule, [("sheet", SHEET), ("words", "b with c 0:1 2:0")]),
    (write_book, [("sheet", SHEET), ("book", BOOK)]),
    (read_book, [("sheet", SHEET), ("words", "a 0 or b 2 and b with c 0:1 2:0")]),
    (write_part, [("sheet", SHEET), ("part", PART)]),
    (read_part, [("sheet", SHEET), ("words", "1 - -")]),
]
HOMES = {sheets: [is_sheet, is_rule, is_book, is_part, is_filling, holds, broken, agrees, mixed],
         following: [followed, clash], keeping: [keepable, paper, core, finished, fillings],
         pairs: [can_be, pairs.pairs, shape, essence, sure, stuck, barring],
         books: [follows, breaking, because, alike, parting, needless, lean, only, learned],
         words: [write_rule, read_rule, write_book, read_book, write_part, read_part]}
BY_NAME_ONLY = {mixed: ["first", "second", "third"], fillings: ["most"]}
KINDS_OF_WORDS = {read_rule: "rule_words", read_book: "book_words", read_part: "part_words"}
DEFAULTS = {finished: {"part": None}, sure: {"part": None}, fillings: {"most": 100}}

# The one that tells of any value, and all others raise nothing for it.
ANY_VALUE = "value"


def kind_of(function, name):
    """What a parameter wants, where its name alone does not tell."""
    if name == "words":
        return KINDS_OF_WORDS[function]
    return "part_or_none" if name == "part" and name in DEFAULTS.get(function, {}) else name


def wrong_ones(function, name):
    return [] if name == ANY_VALUE else wrong_values(kind_of(function, name))


def result(function, *ahead, **more):
    """What a function returns, the list of it where it is iterated over."""
    told = function(*ahead, **more)
    return list(told) if function is fillings else told


def called(function, arguments):
    """What a function returns, with its last parameters by name where it wants that."""
    names = BY_NAME_ONLY.get(function, [])
    return result(function, *[value for name, value in arguments.items() if name not in names],
                  **{name: value for name, value in arguments.items() if name in names})


class Parameters(unittest.TestCase):

    def test_their_names_and_their_sequence(self):
        for function, parameters in FUNCTIONS:
            told = inspect.signature(function).parameters
            self.assertEqual(list(told), [name for name, _ in parameters], function)
            for name, parameter in told.items():
                by_name_only = name in BY_NAME_ONLY.get(function, [])
                self.assertEqual(parameter.kind,
                                 parameter.KEYWORD_ONLY if by_name_only else parameter.POSITIONAL_OR_KEYWORD)
                self.assertIs(parameter.default, DEFAULTS.get(function, {}).get(name, parameter.empty))

    def test_they_are_defined_in_their_files(self):
        self.assertEqual(len(FUNCTIONS), sum(len(functions) for functions in HOMES.values()))
        for home, functions in HOMES.items():
            for function in functions:
                self.assertTrue(inspect.isfunction(function))
                self.assertIs(getattr(home, function.__name__), function)
                self.assertEqual(function.__module__, home.__name__)

    def test_by_position_and_by_name_in_any_sequence(self):
        for function, parameters in FUNCTIONS:
            wanted = called(function, dict(parameters))
            for names in permutations(parameters):
                self.assertTrue(same(result(function, **dict(names)), wanted), function)
            if function not in BY_NAME_ONLY:
                for size in range(len(parameters)):
                    ahead = [value for _, value in parameters[:size]]
                    self.assertTrue(same(function(*ahead, **dict(parameters[size:])), wanted), function)

    def test_one_too_few_or_too_many(self):
        for function, parameters in FUNCTIONS:
            for name, _ in parameters:
                if name not in DEFAULTS.get(function, {}):
                    with self.assertRaises(TypeError):
                        result(function, **{other: value for other, value in parameters if other != name})
            with self.assertRaises(TypeError):
                result(function, *[value for _, value in parameters], None)


class Errors(unittest.TestCase):

    def check(self, function, arguments, error):
        with self.assertRaises(FieldError) as caught:
            called(function, arguments)
        self.assertIs(type(caught.exception), error, (function, arguments))

    def test_each_wrong_parameter(self):
        for function, parameters in FUNCTIONS:
            for name, _ in parameters:
                for wrong in wrong_ones(function, name):
                    self.check(function, {**dict(parameters), name: wrong}, ERRORS[name])

    def test_the_first_wrong_one_of_several(self):
        for function, parameters in FUNCTIONS:
            few = [[(True, value)] + [(False, wrong) for wrong in few_wrong_values(kind_of(function, name))
                                      if name != ANY_VALUE] for name, value in parameters]
            for row in product(*few):
                names = [name for name, _ in parameters]
                arguments = {name: value for name, (_, value) in zip(names, row)}
                wrong = [name for name, (right, _) in zip(names, row) if not right]
                if wrong:
                    self.check(function, arguments, ERRORS[wrong[0]])
                else:
                    called(function, arguments)

    def test_each_wrong_parameter_before_each_later_wrong_one(self):
        for function, parameters in FUNCTIONS:
            for at, (name, _) in enumerate(parameters):
                for wrong in wrong_ones(function, name)[:40]:
                    for later, _ in parameters[at + 1:]:
                        self.check(function, {**dict(parameters), name: wrong, later: None}, ERRORS[name])

    def test_any_value_where_a_function_only_tells(self):
        for function, parameters in FUNCTIONS[:5]:
            for value in any_values() + wrong_values("sheet") + wrong_values("book"):
                self.assertIn(function(*[right for _, right in parameters[:-1]], value), (True, False))
        for function in (is_rule, is_book, is_part, is_filling):
            for wrong in wrong_values("sheet"):
                for value in (RULE, BOOK, FILLING, (), None, wrong):
                    with self.assertRaises(FieldError) as caught:
                        function(wrong, value)
                    self.assertIs(type(caught.exception), InvalidSheet)

    def test_what_is_right_for_another_sheet_only(self):
        for function, arguments, error in (
                (holds, ((2, 2), ("among", 0, (2,)), (0, 0)), InvalidRule),
                (holds, ((2, 2), ("among", 0, (1,)), (2, 0)), InvalidFilling),
                (broken, ((2, 2), (("among", 2, ()),), (0, 0)), InvalidBook),
                (broken, ((2, 2), (), (0, 0, 0)), InvalidFilling),
                (agrees, ((2, 2), (0, 2), (0, 2)), InvalidFilling),
                (agrees, ((2, 2), (0, 1), (0, 2)), InvalidPart),
                (followed, ((2, 2), (("match", 0, 1, ((2, 0),)),), (0, 0)), InvalidBook),
                (followed, ((2, 2), (), (None, 2)), InvalidPart),
                (clash, ((2, 2), (("either", 0, 0, 2, 0),), 0, 0), InvalidBook),
                (clash, ((2, 2), (), 2, 0), InvalidField),
                (clash, ((2, 3), (), 0, 2), InvalidEntry),
                (clash, ((1, 5), (), 0, 1), InvalidEntry),
                (clash, ((1, 5), (), 1, 5), InvalidEntry)):
            with self.assertRaises(FieldError) as caught:
                function(*arguments)
            self.assertIs(type(caught.exception), error, arguments)
        self.assertIsNone(clash((2, 3), (), 1, 2))
        self.assertIsNone(clash((1, 5), (), 1, 4))

    def test_what_is_right_for_another_sheet_only_in_books_and_choices(self):
        wrong_book = (("match", 0, 1, ((2, 0),)),)
        for function, arguments, error in (
                (keepable, ((2, 3), wrong_book), InvalidBook), (paper, ((2, 3), wrong_book), InvalidBook),
                (core, ((2, 3), wrong_book), InvalidBook), (finished, ((2, 3), (), (2, None)), InvalidPart),
                (finished, ((2, 3), wrong_book, (2, None)), InvalidBook), (can_be, ((2, 3), (), 2), InvalidField),
                (pairs.pairs, ((2, 3), (), 0, 2), InvalidField), (pairs.pairs, ((2, 3), (), 2, 0), InvalidField),
                (shape, ((2, 3), (), 1, 2), InvalidField), (shape, ((2, 3), (), 2, 1), InvalidField),
                (essence, ((2, 3), wrong_book), InvalidBook), (sure, ((2, 3), (), (2, None)), InvalidPart),
                (stuck, ((2, 3), (), (0, 3)), InvalidPart), (barring, ((2, 3), (), (2, 0), 0, 0), InvalidPart),
                (barring, ((2, 3), (), (1, 0), 2, 0), InvalidField), (barring, ((2, 3), (), (1, 0), 0, 2), InvalidEntry),
                (follows, ((2, 3), (), ("among", 0, (2,))), InvalidRule),
                (breaking, ((2, 3), (), ("among", 0, (2,))), InvalidRule),
                (because, ((2, 3), (), ("either", 0, 2, 1, 0)), InvalidRule),
                (alike, ((2, 3), (), wrong_book), InvalidBook), (alike, ((2, 3), wrong_book, ()), InvalidBook),
                (parting, ((2, 3), (), wrong_book), InvalidBook), (parting, ((2, 3), wrong_book, ()), InvalidBook),
                (needless, ((2, 3), wrong_book), InvalidBook), (lean, ((2, 3), wrong_book), InvalidBook),
                (only, ((2, 3), (), (0, 2)), InvalidChoice), (learned, ((2, 3), [(0, 0), (2, 0)]), InvalidChoice),
                (write_rule, ((2, 3), ("among", 0, (2,))), InvalidRule), (read_rule, ((2, 3), "a in 2"), InvalidWords),
                (write_book, ((2, 3), wrong_book), InvalidBook),
                (read_book, ((2, 3), "a with b 2:0"), InvalidWords), (write_part, ((2, 3), (0, 3)), InvalidPart),
                (read_part, ((2, 3), "0 3"), InvalidWords), (read_part, ((2, 3), "0 0 0"), InvalidWords)):
            with self.assertRaises(FieldError) as caught:
                function(*arguments)
            self.assertIs(type(caught.exception), error, (function, arguments))

    def test_the_other_field_is_another_one(self):
        for function in (pairs.pairs, shape):
            for field in range(3):
                arguments = {"sheet": SHEET, "book": BOOK, "field": field, "other_field": field}
                self.check(function, arguments, InvalidField)
        for sheet in ((1,), (4,)):
            for other in (0, 1, -1, None):
                self.check(shape, {"sheet": sheet, "book": (), "field": 0, "other_field": other}, InvalidField)

    def test_unkeepable_behind_the_errors_of_the_parameters(self):
        unkept = BOOK + (("among", 1, ()),)
        for function, arguments in ((sure, {"sheet": SHEET, "book": unkept, "part": PART}),
                                    (sure, {"sheet": SHEET, "book": BOOK, "part": (1, 0, None)}),
                                    (barring, {"sheet": SHEET, "book": unkept, "part": PART, "field": 1, "entry": 0}),
                                    (barring, {"sheet": SHEET, "book": BOOK, "part": (1, 2, 1), "field": 1,
                                               "entry": 1})):
            self.check(function, arguments, Unkeepable)
            for name in arguments:
                for wrong in wrong_ones(function, name)[:40]:
                    self.check(function, {**arguments, name: wrong}, ERRORS[name])

    def test_numbers_at_the_edge_of_most(self):
        for most in (1, 2, 999, 1000):
            self.assertEqual(result(fillings, SHEET, BOOK[:2], most=most), [
                (0, 0, 1), (0, 2, 0), (1, 2, 0), (2, 2, 0)][:most])

    def test_mixed_tells_of_each_of_its_fillings(self):
        good = (0, 1)
        for wrong in (None, [0, 1], (0,), (0, 2), (None, 1), (False, True)):
            for at in range(3):
                values = [good] * 3
                values[at] = wrong
                self.check(mixed, dict(zip(["sheet", "first", "second", "third"], [(2, 2), *values])), InvalidFilling)
        self.check(mixed, {"sheet": (2, 6), "first": None, "second": None, "third": None}, InvalidSheet)

    def test_no_limit_of_use_raises_an_error(self):
        for book in (BOOK * 7, BOOK * 20):
            self.assertIs(is_book(SHEET, book), True)
            self.assertEqual(broken(SHEET, book, (0, 0, 1)), [])
            self.assertEqual(followed(SHEET, book, (1, None, None)), (1, 2, 0))
            self.assertIsNone(clash(SHEET, book, 0, 1))
            self.assertIsNotNone(clash(SHEET, book, 1, 1))
            self.assertIs(keepable(SHEET, book), True)
            self.assertEqual(core(SHEET, book + (("among", 1, (1,)),)), [1, len(book)])
            self.assertEqual(lean(SHEET, book), [0, 1])
            self.assertEqual(because(SHEET, book, RULE), [1])
            self.assertEqual(needless(SHEET, book), list(range(len(book))))
            self.assertIsNone(parting(SHEET, book, BOOK))
            self.assertEqual(essence(SHEET, book), essence(SHEET, BOOK))
            self.assertEqual(read_book(SHEET, write_book(SHEET, book)), book)
        self.assertEqual(learned(SHEET, [(0, 0, 1), (1, 2, 0), (2, 2, 0)] * 100), essence(SHEET, BOOK))
        many = tuple(("either", low, 4, high, 4) for low in range(8) for high in range(low + 1, 8))
        self.assertEqual(broken(LARGEST, many, (4,) * 8), [])
        self.assertEqual(broken(LARGEST, many, (0,) * 8), list(range(28)))
        self.assertEqual(followed(LARGEST, many, (None,) * 7 + (0,)), (4,) * 7 + (0,))

    def test_true_is_no_integer_whatever_was_asked_before(self):
        for _ in range(2):
            self.assertIs(holds((2, 2), ("among", 1, (1,)), (0, 1)), True)
            self.check(holds, {"sheet": (2, 2), "rule": ("among", True, (1,)), "filling": (0, 1)}, InvalidRule)
            self.check(holds, {"sheet": (2, 2), "rule": ("among", 1, (1,)), "filling": (False, 1)}, InvalidFilling)
            self.assertIsNone(clash((2, 2), (), 1, 0))
            self.check(clash, {"sheet": (2, 2), "book": (), "field": True, "entry": 0}, InvalidField)
            self.check(clash, {"sheet": (2, 2), "book": (), "field": 1, "entry": False}, InvalidEntry)
            self.assertEqual(followed((2, 2), (), (1, None)), (1, None))
            self.check(followed, {"sheet": (2, 2), "book": (), "part": (True, None)}, InvalidPart)


class LeftAsTheyAre(unittest.TestCase):

    def test_arguments_are_left_as_they_are(self):
        for function, parameters in FUNCTIONS:
            for name, right in parameters:
                wrong = wrong_ones(function, name) or any_values() + [list(right), [list(right)]]
                for value in [right, *wrong]:
                    arguments = {**dict(parameters), name: value}
                    before = {one: copied(told) for one, told in arguments.items()}
                    try:
                        called(function, arguments)
                    except FieldError:
                        pass
                    for one, told in arguments.items():
                        self.assertTrue(same(told, before[one]), (function, one, told))

    def test_equal_arguments_have_equal_results(self):
        for function, parameters in FUNCTIONS:
            arguments = dict(parameters)
            first = called(function, copied_arguments(arguments))
            for other, others in FUNCTIONS:
                called(other, dict(others))
            self.assertTrue(same(called(function, copied_arguments(arguments)), first), function)

    def test_an_answer_is_the_same_behind_a_call_that_raised_an_error(self):
        for function, parameters in FUNCTIONS:
            first = called(function, dict(parameters))
            for name, _ in parameters:
                for wrong in wrong_ones(function, name)[:10]:
                    with self.assertRaises(FieldError):
                        called(function, {**dict(parameters), name: wrong})
                    self.assertTrue(same(called(function, dict(parameters)), first), function)

    def test_a_returned_list_that_is_changed_changes_no_later_answer(self):
        for filling in ((1, 0, 1), (0, 0, 1), (2, 1, 1)):
            first = broken(SHEET, BOOK, filling)
            kept = list(first)
            first.append(None)
            self.assertEqual(broken(SHEET, BOOK, filling), kept)
            first.clear()
            self.assertEqual(broken(SHEET, BOOK, filling), kept)

    def test_each_list_that_is_returned_is_new(self):
        told = 0
        for function, parameters in FUNCTIONS:
            first = function(**dict(parameters))
            if type(first) is list:
                told += 1
                kept = copied(first)
                first.append(None)
                self.assertTrue(same(called(function, dict(parameters)), kept), function)
                first.clear()
                self.assertTrue(same(called(function, dict(parameters)), kept), function)
        self.assertEqual(told, 8)


def copied_arguments(arguments):
    return {name: copied(value) for name, value in arguments.items()}


if __name__ == "__main__":
    unittest.main()
