"""Sheets, and the rules, books, parts and fillings of a sheet."""

from eitherfields.checks import book_fits, filling_fits, part_fits, rule_fits, sheet_fits
from eitherfields.checks import need_book, need_filling, need_part, need_rule, need_sheet


def is_sheet(value):
    """Whether any value is a sheet."""
    return sheet_fits(value)


def is_rule(sheet, value):
    """Whether any value is a rule of the sheet."""
    need_sheet(sheet)
    return rule_fits(sheet, value)


def is_book(sheet, value):
    """Whether any value is a tuple of rules of the sheet."""
    need_sheet(sheet)
    return book_fits(sheet, value)


def is_part(sheet, value):
    """Whether any value is a part of the sheet."""
    need_sheet(sheet)
    return part_fits(sheet, value)


def is_filling(sheet, value):
    """Whether any value is a filling of the sheet."""
    need_sheet(sheet)
    return filling_fits(sheet, value)


def holds(sheet, rule, filling):
    """Whether the rule holds of the filling."""
    need_sheet(sheet)
    need_rule(sheet, rule)
    need_filling(sheet, filling)
    return rule_holds(rule, filling)


def broken(sheet, book, filling):
    """The ascending list of the indexes of the rules that do not hold of the filling."""
    need_sheet(sheet)
    need_book(sheet, book)
    need_filling(sheet, filling)
    return [index for index, rule in enumerate(book) if not rule_holds(rule, filling)]


def agrees(sheet, filling, part):
    """Whether the filling has the values that are filled in."""
    need_sheet(sheet)
    need_filling(sheet, filling)
    need_part(sheet, part)
    return all([told is None or told == value for value, told in zip(filling, part)])


def mixed(sheet, *, first, second, third):
    """The mix of three fillings."""
    need_sheet(sheet)
    need_filling(sheet, first)
    need_filling(sheet, second)
    need_filling(sheet, third)
    return tuple([one if one == other else last for one, other, last in zip(first, second, third)])


def rule_holds(rule, filling):
    """Whether a rule holds of a filling, both of one sheet."""
    if rule[0] == "among":
        _, field, entries = rule
        return filling[field] in entries
    if rule[0] == "match":
        _, field, other_field, pairs = rule
        return (filling[field], filling[other_field]) in pairs
    _, field, value, other_field, other_value = rule
    return filling[field] == value or filling[other_field] == other_value


def part_of(sheet, choices):
    """The part that has the values of some pairs (field, value) of different fields, and no others."""
    values = {field: value for field, value in choices}
    return tuple([values.get(field) for field in range(len(sheet))])


def fields_of(rule):
    """The ascending tuple of the fields of which a rule speaks."""
    if rule[0] == "among":
        return (rule[1],)
    if rule[0] == "match":
        return (rule[1], rule[2])
    return (rule[1], rule[3])
