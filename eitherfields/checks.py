"""What is a sheet, a field, a rule and so on, and the errors for parameters that are none.

A function .._fits tells of any value whether it is one; a function need_.. raises the error of a parameter.
All but sheet_fits and need_sheet take a sheet that is one.
"""

from eitherfields.errors import InvalidBook, InvalidChoice, InvalidEntry, InvalidField, InvalidFilling
from eitherfields.errors import InvalidPart, InvalidRule, InvalidSheet

MOST_FIELDS = 8
MOST_VALUES = 5
MOST_ASKED = 1000


def between(value, low, high):
    """Whether any value is an integer from low to high."""
    return isinstance(value, int) and not isinstance(value, bool) and low <= value <= high


def ascending(numbers):
    """Whether each number is greater than the one before it."""
    return all([low < high for low, high in zip(numbers, numbers[1:])])


def sheet_fits(value):
    """Whether any value is a sheet."""
    if type(value) != tuple or not between(len(value), 1, MOST_FIELDS):
        return False
    return all([between(many, 1, MOST_VALUES) for many in value])


def field_fits(sheet, value):
    """Whether any value is a field of the sheet."""
    return between(value, 0, len(sheet) - 1)


def entry_fits(sheet, field, value):
    """Whether any value is a value of the field."""
    return between(value, 0, sheet[field] - 1)


def entries_fit(sheet, field, value):
    """Whether any value is an ascending tuple of values of the field."""
    if type(value) != tuple:
        return False
    return all([entry_fits(sheet, field, entry) for entry in value]) and ascending(value)


def pair_fits(sheet, field, other_field, value):
    """Whether any value is a pair of values of the two fields."""
    if type(value) != tuple or len(value) != 2:
        return False
    return entry_fits(sheet, field, value[0]) and entry_fits(sheet, other_field, value[1])


def pairs_fit(sheet, field, other_field, value):
    """Whether any value is what a match of the two fields has as its pairs."""
    if type(value) != tuple or not all([pair_fits(sheet, field, other_field, pair) for pair in value]):
        return False
    # As no first value comes twice, pairs are ascending exactly if their first values are.
    return ascending([pair[0] for pair in value]) and len({pair[1] for pair in value}) == len(value)


def fields_fit(sheet, value, other):
    """Whether any two values are two fields of the sheet, the lesser one first."""
    return field_fits(sheet, value) and field_fits(sheet, other) and value < other


def among_fits(sheet, value):
    """Whether a tuple that begins with "among" is a rule."""
    return len(value) == 3 and field_fits(sheet, value[1]) and entries_fit(sheet, value[1], value[2])


def match_fits(sheet, value):
    """Whether a tuple that begins with "match" is a rule."""
    if len(value) != 4 or not fields_fit(sheet, value[1], value[2]):
        return False
    return pairs_fit(sheet, value[1], value[2], value[3])


def either_fits(sheet, value):
    """Whether a tuple that begins with "either" is a rule."""
    if len(value) != 5 or not fields_fit(sheet, value[1], value[3]):
        return False
    return entry_fits(sheet, value[1], value[2]) and entry_fits(sheet, value[3], value[4])


def rule_fits(sheet, value):
    """Whether any value is a rule of the sheet."""
    if type(value) != tuple or len(value) == 0 or not isinstance(value[0], str):
        return False
    if value[0] == "among":
        return among_fits(sheet, value)
    if value[0] == "match":
        return match_fits(sheet, value)
    return value[0] == "either" and either_fits(sheet, value)


def book_fits(sheet, value):
    """Whether any value is a tuple of rules of the sheet."""
    return type(value) == tuple and all([rule_fits(sheet, rule) for rule in value])


def part_fits(sheet, value):
    """Whether any value is a part of the sheet."""
    if type(value) != tuple or len(value) != len(sheet):
        return False
    return all([entry is None or entry_fits(sheet, field, entry) for field, entry in enumerate(value)])


def filling_fits(sheet, value):
    """Whether any value is a filling of the sheet."""
    return part_fits(sheet, value) and None not in value


def kept_fit(sheet, value):
    """Whether any value is an ascending tuple of one or more fields."""
    if type(value) != tuple or len(value) == 0:
        return False
    return all([field_fits(sheet, field) for field in value]) and ascending(value)


def seen_fit(sheet, value):
    """Whether any value is a list of one or more fillings."""
    if type(value) != list or len(value) == 0:
        return False
    return all([filling_fits(sheet, filling) for filling in value])


def need_sheet(sheet):
    """Raises InvalidSheet unless it is a sheet."""
    if not sheet_fits(sheet):
        raise InvalidSheet("a sheet is a tuple of 1 to 8 integers from 1 to 5")


def need_field(sheet, field):
    """Raises InvalidField unless it is a field of the sheet."""
    if not field_fits(sheet, field):
        raise InvalidField("a field is an integer from 0 on, less than the number of fields")


def need_other_field(sheet, field, other_field):
    """Raises InvalidField unless it is a field of the sheet, and another one than field."""
    need_field(sheet, other_field)
    if other_field == field:
        raise InvalidField("the other field is another one than the first")


def need_entry(sheet, field, entry):
    """Raises InvalidEntry unless it is a value of the field."""
    if not entry_fits(sheet, field, entry):
        raise InvalidEntry("a value is an integer from 0 on, less than the number of values of its field")


def need_rule(sheet, rule):
    """Raises InvalidRule unless it is a rule of the sheet."""
    if not rule_fits(sheet, rule):
        raise InvalidRule("a rule of the sheet is wanted")


def need_book(sheet, book):
    """Raises InvalidBook unless it is a book of the sheet."""
    if not book_fits(sheet, book):
        raise InvalidBook("a book is a tuple of rules of the sheet")


def need_part(sheet, part):
    """Raises InvalidPart unless it is a part of the sheet."""
    if not part_fits(sheet, part):
        raise InvalidPart("a part is a tuple with a value or None for each field of the sheet")


def need_part_or_none(sheet, part):
    """Raises InvalidPart unless it is a part of the sheet or None."""
    if part is not None:
        need_part(sheet, part)


def need_filling(sheet, filling):
    """Raises InvalidFilling unless it is a filling of the sheet."""
    if not filling_fits(sheet, filling):
        raise InvalidFilling("a filling is a tuple with a value for each field of the sheet")


def need_kept_fields(sheet, kept_fields):
    """Raises InvalidChoice unless it is an ascending tuple of one or more fields."""
    if not kept_fit(sheet, kept_fields):
        raise InvalidChoice("the kept fields are an ascending tuple of one or more fields of the sheet")


def need_seen(sheet, seen):
    """Raises InvalidChoice unless it is a list of one or more fillings."""
    if not seen_fit(sheet, seen):
        raise InvalidChoice("what is seen is a list of one or more fillings of the sheet")


def need_most(most):
    """Raises InvalidChoice unless it is a number of fillings that can be asked for."""
    if not between(most, 1, MOST_ASKED):
        raise InvalidChoice("at most is an integer from 1 to 1000")
