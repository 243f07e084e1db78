"""What each value of a keepable book brings with it, and what can be told by this.

A table has for each field a list with, for each of its values, the part that has come from this value, followed
alone; None if it clashes. All that comes from several values comes from one of them already. So what comes from a
part is put together from the table, and, by F2 and F3 of the document, all answers about the book are read off it.
"""

from eitherfields.following import rules_by_field, spread
from eitherfields.sheets import fields_of, part_of, rule_holds


def table_of(sheet, book):
    """The table of a book, None if the book is not keepable."""
    by_field = rules_by_field(sheet, book)
    table = [[brought(sheet, by_field, field, value) for value in range(many)] for field, many in enumerate(sheet)]
    if any([all([come is None for come in row]) for row in table]):
        return None
    return table


def brought(sheet, by_field, field, value):
    """The part that has come from a value, followed alone, None if it clashes."""
    come, paper = spread(by_field, [(field, value)])
    return part_of(sheet, come) if paper is None else None


def nothing_filled(sheet):
    """The part in which nothing is filled in."""
    return (None,) * len(sheet)


def replaced(part, field, value):
    """The part with a value, or None, in the place of what is in the field."""
    return part[:field] + (value,) + part[field + 1:]


def filled_in(part):
    """The list of the pairs (field, value) that are filled in."""
    return [(field, value) for field, value in enumerate(part) if value is not None]


def meets(part, other):
    """Whether no field has different values in two parts."""
    return all([one is None or two is None or one == two for one, two in zip(part, other)])


def united(part, other):
    """What is filled in in one of two parts that meet, or in both."""
    return tuple([two if one is None else one for one, two in zip(part, other)])


def come_of(table, part):
    """The part that has come from the values of a part, None if they clash or no filling keeps the book.

    So, by F2, None exactly if the part cannot be finished.
    """
    if table is None:
        return None
    come = nothing_filled(part)
    for field, value in filled_in(part):
        more = table[field][value]
        if more is None or not meets(come, more):
            return None
        come = united(come, more)
    return come


def values_left(table, come, field):
    """The ascending list of the values of the field that can be chosen beside what has come from a part."""
    return [value for value, more in enumerate(table[field]) if more is not None and meets(come, more)]


def options_left(table, part, field):
    """The ascending list of the values with which, in a field that is empty, the part can be finished."""
    come = come_of(table, part)
    return [] if come is None else values_left(table, come, field)


def sure_values(table, come):
    """The ascending list of the pairs (field, value) that are sure beside what has come from a part."""
    left = [values_left(table, come, field) for field in range(len(table))]
    return [(field, values[0]) for field, values in enumerate(left) if len(values) == 1]


def least_filling(table, part):
    """The least filling that keeps the book and agrees with the part, None if there is none."""
    come = come_of(table, part)
    if come is None:
        return None
    for field, row in enumerate(table):
        # By F2 a value is left, and the choice of the least one leads to no dead end further on.
        come = united(come, row[values_left(table, come, field)[0]])
    return come


def pairs_left(table, field, other_field):
    """The ascending list of the pairs of values that two fields can have together."""
    nothing = nothing_filled(table)
    return [(value, other) for value in values_left(table, nothing, field)
            for other in values_left(table, table[field][value], other_field)]


def misses(sheet, rule):
    """The list of the parts of the fields of a rule of which the rule does not hold."""
    parts = [nothing_filled(sheet)]
    for field in fields_of(rule):
        parts = [replaced(part, field, value) for part in parts for value in range(sheet[field])]
    return [part for part in parts if not rule_holds(rule, part)]


def rule_follows(sheet, table, rule):
    """Whether the rule holds of all fillings that keep the book; table is None if there are none."""
    return all([come_of(table, part) is None for part in misses(sheet, rule)])


def whittled(book, spare):
    """The ascending list of the indexes of the rules that are left if, from the last one to the first one, each one
    is left out for which spare(rest, rule) holds; rest is the tuple of the others that are still there.
    """
    left = list(range(len(book)))
    for index in reversed(range(len(book))):
        others = [other for other in left if other != index]
        if spare(tuple([book[other] for other in others]), book[index]):
            left = others
    return left
