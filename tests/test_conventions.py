"""[2] What holds of every function: its parameters, its errors and what it leaves as it is."""

import inspect
import unittest
from itertools import permutations, product

from eitherfields import following, sheets
from eitherfields.errors import (
    FieldError, InvalidBook, InvalidEntry, InvalidField, InvalidFilling, InvalidPart, InvalidRule, InvalidSheet)
from eitherfields.following import clash, followed
from eitherfields.sheets import (
    agrees, broken, holds, is_book, is_filling, is_part, is_rule, is_sheet, mixed)
from tests.helpers import LARGEST, any_values, copied, same, spoiled

SHEET = (3, 3, 2)
RULE = ("match", 1, 2, ((0, 1), (2, 0)))
BOOK = (("either", 0, 0, 1, 2), RULE, ("among", 1, (0, 2)))
FILLING = (1, 0, 1)

# For each function its parameters in the sequence of the signature, each with a right argument.
FUNCTIONS = [
    (is_sheet, [("value", SHEET)]),
    (is_rule, [("sheet", SHEET), ("value", RULE)]),
    (is_book, [("sheet", SHEET), ("value", BOOK)]),
    (is_part, [("sheet", SHEET), ("value", (None, 0, None))]),
    (is_filling, [("sheet", SHEET), ("value", FILLING)]),
    (holds, [("sheet", SHEET), ("rule", RULE), ("filling", FILLING)]),
    (broken, [("sheet", SHEET), ("book", BOOK), ("filling", FILLING)]),
    (agrees, [("sheet", SHEET), ("filling", FILLING), ("part", (1, None, 0))]),
    (mixed, [("sheet", SHEET), ("first", FILLING), ("second", (0, 0, 0)), ("third", (2, 2, 1))]),
    (followed, [("sheet", SHEET), ("book", BOOK), ("part", (1, None, None))]),
    (clash, [("sheet", SHEET), ("book", BOOK), ("field", 1), ("entry", 1)]),
]
ERRORS = {"sheet": InvalidSheet, "rule": InvalidRule, "book": InvalidBook, "part": InvalidPart,
          "filling": InvalidFilling, "first": InvalidFilling, "second": InvalidFilling, "third": InvalidFilling,
          "field": InvalidField, "entry": InvalidEntry}

# The one that tells of any value, and all others raise nothing for it.
ANY_VALUE = "value"


def wrong_values(name):
    """Wrong arguments of a parameter, where the sheet is SHEET."""
    others = {
        "sheet": [[3, 3, 2], (), (0, 3, 2), (3, 6, 2), (3,) * 9, (3, True, 2), 3, "3 3 2", *spoiled(SHEET)],
        "rule": [list(RULE), BOOK, ("match", 2, 1, ((0, 2),)), ("among", 0, (3,)), ("among", 3, ()),
                 ("match", 1, 2, ((0, 1), (2, 1))), ("either", 0, 0, 0, 0), *spoiled(RULE)],
        "book": [list(BOOK), RULE, BOOK + (("among", 2, (2,)),), (("among", 3, ()),) + BOOK, BOOK + ((),), (BOOK,),
                 BOOK + (None,), *spoiled(BOOK)],
        "part": [[1, None, None], (1, None), (1, None, None, None), (3, None, None), (None, None, 2), (None, True, 0),
                 (-1, None, None), (None, "0", None), (None, None, [None])],
        "filling": [list(FILLING), (1, 0), (1, 0, 1, 0), (3, 0, 1), (1, 0, 2), (True, 0, 1), (1, 0, False),
                    (None, 0, 1), (1, 0, None), (None, None, None), *spoiled(FILLING)],
        "field": [3, -1, 8, True, False, "a", "1", (1,), [1], None],
        "entry": [3, -1, True, False, "1", (1,), [0], None],
    }
    name = "filling" if name in ("first", "second", "third") else name
    return others[name] + [value for value in any_values() if not (name == "book" and same(value, ()))]


def called(function, arguments):
    """What a function returns, with its last parameters by name where it wants that."""
    if function is mixed:
        return mixed(arguments["sheet"], first=arguments["first"], second=arguments["second"],
                     third=arguments["third"])
    return function(*arguments.values())


class Parameters(unittest.TestCase):

    def test_their_names_and_their_sequence(self):
        for function, parameters in FUNCTIONS:
            told = inspect.signature(function).parameters
            self.assertEqual(list(told), [name for name, _ in parameters], function)
            for name, parameter in told.items():
                by_name_only = function is mixed and name != "sheet"
                self.assertEqual(parameter.kind,
                                 parameter.KEYWORD_ONLY if by_name_only else parameter.POSITIONAL_OR_KEYWORD)
                self.assertIs(parameter.default, parameter.empty)

    def test_they_are_defined_in_their_files(self):
        for function, _ in FUNCTIONS:
            home = following if function in (followed, clash) else sheets
            self.assertTrue(inspect.isfunction(function))
            self.assertIs(getattr(home, function.__name__), function)
            self.assertEqual(function.__module__, home.__name__)

    def test_by_position_and_by_name_in_any_sequence(self):
        for function, parameters in FUNCTIONS:
            wanted = called(function, dict(parameters))
            for names in permutations(parameters):
                self.assertTrue(same(function(**dict(names)), wanted), function)
            if function is not mixed:
                for size in range(len(parameters)):
                    ahead = [value for _, value in parameters[:size]]
                    self.assertTrue(same(function(*ahead, **dict(parameters[size:])), wanted), function)

    def test_one_too_few_or_too_many(self):
        for function, parameters in FUNCTIONS:
            for name, _ in parameters:
                with self.assertRaises(TypeError):
                    function(**{other: value for other, value in parameters if other != name})
            with self.assertRaises(TypeError):
                function(*[value for _, value in parameters], None)


class Errors(unittest.TestCase):

    def check(self, function, arguments, error):
        with self.assertRaises(FieldError) as caught:
            called(function, arguments)
        self.assertIs(type(caught.exception), error, (function, arguments))

    def test_each_wrong_parameter(self):
        for function, parameters in FUNCTIONS:
            for name, _ in parameters:
                for wrong in wrong_values(name) if name != ANY_VALUE else []:
                    self.check(function, {**dict(parameters), name: wrong}, ERRORS[name])

    def test_the_first_wrong_one_of_several(self):
        for function, parameters in FUNCTIONS:
            few = [[(True, value)] + [(False, wrong) for wrong in ([None, 10 ** 30, "x"] if name != ANY_VALUE else [])]
                   for name, value in parameters]
            for row in product(*few):
                names = [name for name, _ in parameters]
                arguments = {name: value for name, (_, value) in zip(names, row)}
                wrong = [name for name, (right, _) in zip(names, row) if not right]
                if wrong:
                    self.check(function, arguments, ERRORS[wrong[0]])
                else:
                    called(function, arguments)

    def test_each_wrong_parameter_before_each_later_wrong_one(self):
        for function, parameters in FUNCTIONS:
            for at, (name, _) in enumerate(parameters):
                for wrong in wrong_values(name)[:40] if name != ANY_VALUE else []:
                    for later, _ in parameters[at + 1:]:
                        self.check(function, {**dict(parameters), name: wrong, later: None}, ERRORS[name])

    def test_any_value_where_a_function_only_tells(self):
        for function, parameters in FUNCTIONS[:5]:
            for value in any_values() + wrong_values("sheet") + wrong_values("book"):
                self.assertIn(function(*[right for _, right in parameters[:-1]], value), (True, False))
        for function in (is_rule, is_book, is_part, is_filling):
            for wrong in wrong_values("sheet"):
                for value in (RULE, BOOK, FILLING, (), None, wrong):
                    with self.assertRaises(FieldError) as caught:
                        function(wrong, value)
                    self.assertIs(type(caught.exception), InvalidSheet)

    def test_what_is_right_for_another_sheet_only(self):
        for function, arguments, error in (
                (holds, ((2, 2), ("among", 0, (2,)), (0, 0)), InvalidRule),
                (holds, ((2, 2), ("among", 0, (1,)), (2, 0)), InvalidFilling),
                (broken, ((2, 2), (("among", 2, ()),), (0, 0)), InvalidBook),
                (broken, ((2, 2), (), (0, 0, 0)), InvalidFilling),
                (agrees, ((2, 2), (0, 2), (0, 2)), InvalidFilling),
                (agrees, ((2, 2), (0, 1), (0, 2)), InvalidPart),
                (followed, ((2, 2), (("match", 0, 1, ((2, 0),)),), (0, 0)), InvalidBook),
                (followed, ((2, 2), (), (None, 2)), InvalidPart),
                (clash, ((2, 2), (("either", 0, 0, 2, 0),), 0, 0), InvalidBook),
                (clash, ((2, 2), (), 2, 0), InvalidField),
                (clash, ((2, 3), (), 0, 2), InvalidEntry),
                (clash, ((1, 5), (), 0, 1), InvalidEntry),
                (clash, ((1, 5), (), 1, 5), InvalidEntry)):
            with self.assertRaises(FieldError) as caught:
                function(*arguments)
            self.assertIs(type(caught.exception), error, arguments)
        self.assertIsNone(clash((2, 3), (), 1, 2))
        self.assertIsNone(clash((1, 5), (), 1, 4))

    def test_mixed_tells_of_each_of_its_fillings(self):
        good = (0, 1)
        for wrong in (None, [0, 1], (0,), (0, 2), (None, 1), (False, True)):
            for at in range(3):
                values = [good] * 3
                values[at] = wrong
                self.check(mixed, dict(zip(["sheet", "first", "second", "third"], [(2, 2), *values])), InvalidFilling)
        self.check(mixed, {"sheet": (2, 6), "first": None, "second": None, "third": None}, InvalidSheet)

    def test_no_limit_of_use_raises_an_error(self):
        for book in (BOOK * 7, BOOK * 20):
            self.assertIs(is_book(SHEET, book), True)
            self.assertEqual(broken(SHEET, book, (0, 0, 1)), [])
            self.assertEqual(followed(SHEET, book, (1, None, None)), (1, 2, 0))
            self.assertIsNone(clash(SHEET, book, 0, 1))
            self.assertIsNotNone(clash(SHEET, book, 1, 1))
        many = tuple(("either", low, 4, high, 4) for low in range(8) for high in range(low + 1, 8))
        self.assertEqual(broken(LARGEST, many, (4,) * 8), [])
        self.assertEqual(broken(LARGEST, many, (0,) * 8), list(range(28)))
        self.assertEqual(followed(LARGEST, many, (None,) * 7 + (0,)), (4,) * 7 + (0,))

    def test_true_is_no_integer_whatever_was_asked_before(self):
        for _ in range(2):
            self.assertIs(holds((2, 2), ("among", 1, (1,)), (0, 1)), True)
            self.check(holds, {"sheet": (2, 2), "rule": ("among", True, (1,)), "filling": (0, 1)}, InvalidRule)
            self.check(holds, {"sheet": (2, 2), "rule": ("among", 1, (1,)), "filling": (False, 1)}, InvalidFilling)
            self.assertIsNone(clash((2, 2), (), 1, 0))
            self.check(clash, {"sheet": (2, 2), "book": (), "field": True, "entry": 0}, InvalidField)
            self.check(clash, {"sheet": (2, 2), "book": (), "field": 1, "entry": False}, InvalidEntry)
            self.assertEqual(followed((2, 2), (), (1, None)), (1, None))
            self.check(followed, {"sheet": (2, 2), "book": (), "part": (True, None)}, InvalidPart)


class LeftAsTheyAre(unittest.TestCase):

    def test_arguments_are_left_as_they_are(self):
        for function, parameters in FUNCTIONS:
            for name, right in parameters:
                wrong = wrong_values(name) if name != ANY_VALUE else any_values() + [list(right), [list(right)]]
                for value in [right, *wrong]:
                    arguments = {**dict(parameters), name: value}
                    before = {one: copied(told) for one, told in arguments.items()}
                    try:
                        called(function, arguments)
                    except FieldError:
                        pass
                    for one, told in arguments.items():
                        self.assertTrue(same(told, before[one]), (function, one, told))

    def test_equal_arguments_have_equal_results(self):
        for function, parameters in FUNCTIONS:
            arguments = dict(parameters)
            first = called(function, copied_arguments(arguments))
            for other, others in FUNCTIONS:
                called(other, dict(others))
            self.assertTrue(same(called(function, copied_arguments(arguments)), first), function)

    def test_an_answer_is_the_same_behind_a_call_that_raised_an_error(self):
        for function, parameters in FUNCTIONS:
            first = called(function, dict(parameters))
            for name, _ in parameters:
                for wrong in wrong_values(name)[:10] if name != ANY_VALUE else []:
                    with self.assertRaises(FieldError):
                        called(function, {**dict(parameters), name: wrong})
                    self.assertTrue(same(called(function, dict(parameters)), first), function)

    def test_a_returned_list_that_is_changed_changes_no_later_answer(self):
        for filling in ((1, 0, 1), (0, 0, 1), (2, 1, 1)):
            first = broken(SHEET, BOOK, filling)
            kept = list(first)
            first.append(None)
            self.assertEqual(broken(SHEET, BOOK, filling), kept)
            first.clear()
            self.assertEqual(broken(SHEET, BOOK, filling), kept)


def copied_arguments(arguments):
    return {name: copied(value) for name, value in arguments.items()}


if __name__ == "__main__":
    unittest.main()
