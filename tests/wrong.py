"""Wrong arguments for each parameter by its name, and the error that each of them has."""

from eitherfields.errors import (
    InvalidBook, InvalidChoice, InvalidEntry, InvalidField, InvalidFilling, InvalidPart, InvalidRule, InvalidSheet,
    InvalidWords)
from tests.helpers import any_values, same, spoiled

SHEET = (3, 3, 2)
RULE = ("match", 1, 2, ((0, 1), (2, 0)))
BOOK = (("either", 0, 0, 1, 2), RULE, ("among", 1, (0, 2)))
FILLING = (1, 0, 1)

ERRORS = {"sheet": InvalidSheet, "rule": InvalidRule, "book": InvalidBook, "one": InvalidBook, "other": InvalidBook,
          "part": InvalidPart, "part_or_none": InvalidPart, "filling": InvalidFilling, "first": InvalidFilling,
          "second": InvalidFilling, "third": InvalidFilling, "field": InvalidField, "other_field": InvalidField,
          "entry": InvalidEntry, "kept_fields": InvalidChoice, "seen": InvalidChoice, "most": InvalidChoice,
          "words": InvalidWords}
SAME_AS = {"first": "filling", "second": "filling", "third": "filling", "one": "book", "other": "book",
           "part_or_none": "part"}


# Strings that no reader takes, and for each reader those that one of the others takes.
NO_WORDS = ["", " ", "x", "a", "- -", "a in", "a in 3", "a in 1 0", "A in 0", "a in 0 ", " a in 0", "a  in 0",
            "a in\n0", "b with a 0:0", "d in 0", "c 0 or a 0", "a 0 or a 0", "0", "0 0", "0 0 0 0", "3 0 0", "0 0 2",
            "- - - -", "and", "- and a in 0", "a in 0 and", "a in 0 and -", "a in 0 b in 0", "None", "()", str(RULE),
            str(BOOK)]
OTHER_WORDS = {"rule_words": ["-", "a in 0 and b in 0", "- - -", "0 0 0"], "book_words": ["- - -", "0 - 1"],
               "part_words": ["-", "a in 0", "a 0 or b 2", "a in 0 and b in 0"]}


def near_values(name):
    """Values near to what a parameter wants, where the sheet is SHEET."""
    return {
        "sheet": [[3, 3, 2], (), (0, 3, 2), (3, 6, 2), (3,) * 9, (3, True, 2), 3, "3 3 2", *spoiled(SHEET)],
        "rule": [list(RULE), BOOK, ("match", 2, 1, ((0, 2),)), ("among", 0, (3,)), ("among", 3, ()),
                 ("match", 1, 2, ((0, 1), (2, 1))), ("either", 0, 0, 0, 0), *spoiled(RULE)],
        "book": [list(BOOK), RULE, BOOK + (("among", 2, (2,)),), (("among", 3, ()),) + BOOK, BOOK + ((),), (BOOK,),
                 BOOK + (None,), *spoiled(BOOK)],
        "part": [[1, None, None], (1, None), (1, None, None, None), (3, None, None), (None, None, 2), (None, True, 0),
                 (-1, None, None), (None, "0", None), (None, None, [None])],
        "filling": [list(FILLING), (1, 0), (1, 0, 1, 0), (3, 0, 1), (1, 0, 2), (True, 0, 1), (1, 0, False),
                    (None, 0, 1), (1, 0, None), (None, None, None), *spoiled(FILLING)],
        "field": [3, -1, 8, True, False, "a", "1", (1,), [1], None],
        "other_field": [3, -1, 8, True, False, "a", "0", (0,), [0], None],
        "entry": [3, -1, True, False, "1", (1,), [0], None],
        "kept_fields": [(), [0, 2], [], (0, 3), (3,), (-1, 0), (1, 0), (0, 0), (0, 1, 1), (0, 2, 1), (True,), (0, True),
                        (False, 1), 0, 2, "0", "ac", None, (None,), ("0",), ((0,),), (0, 1, 2, 3), *spoiled((0, 2))],
        "seen": [[], (), (FILLING,), FILLING, [FILLING, None], [None], [(1, 0)], [(1, 0, 1, 0)], [FILLING, (3, 0, 1)],
                 [(1, 0, 2), FILLING], [(1, None, 0)], [list(FILLING)], [[FILLING]], [FILLING, (1, False, 0)], 0,
                 None, "000", [FILLING, FILLING, [FILLING]], list(FILLING)],
        "most": [0, -1, 1001, 10 ** 30, -10 ** 30, True, False, None, "1", "100", (1,), [1], "-", -100],
    }[SAME_AS.get(name, name)]


def wrong_values(name):
    """Wrong arguments of a parameter, where the sheet is SHEET, the field is 1 and all others are right."""
    if name in OTHER_WORDS:
        return NO_WORDS + OTHER_WORDS[name]
    return near_values(name) + [value for value in any_values() if not right_by_chance(name, value)]


def right_by_chance(name, value):
    if name == "part_or_none":
        return value is None
    if SAME_AS.get(name, name) == "book":
        return same(value, ())
    return name == "most" and type(value) is int and 0 < value <= 1000


def few_wrong_values(name):
    if name in OTHER_WORDS:
        return ["", "x", "a in 0 -"]
    return [value for value in [None, 10 ** 30, "x"] if not right_by_chance(name, value)]
