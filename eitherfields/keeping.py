"""Whether a book can be kept: the fillings that keep it, or the paper and the core that show that none does."""

from eitherfields.checks import need_book, need_most, need_part_or_none, need_sheet
from eitherfields.following import rules_by_field, spread
from eitherfields.tables import least_filling, nothing_filled, table_of, united, values_left, whittled


def keepable(sheet, book):
    """Whether some filling keeps the book."""
    need_sheet(sheet)
    need_book(sheet, book)
    return table_of(sheet, book) is not None


def paper(sheet, book):
    """None if the book is keepable; else the least field with values that all clash, and the clash of each."""
    need_sheet(sheet)
    need_book(sheet, book)
    by_field = rules_by_field(sheet, book)
    for field, many in enumerate(sheet):
        clashes = [clash_of(by_field, field, value) for value in range(many)]
        if None not in clashes:
            return field, tuple(clashes)
    return None


def clash_of(by_field, field, value):
    """None if the value, followed alone, does not clash; else the paper of its clash."""
    _, told = spread(by_field, [(field, value)])
    return told


def core(sheet, book):
    """None if the book is keepable; else the ascending list of the indexes of rules none of which can be spared."""
    need_sheet(sheet)
    need_book(sheet, book)
    if table_of(sheet, book) is not None:
        return None
    return whittled(book, lambda rest, rule: table_of(sheet, rest) is None)


def finished(sheet, book, part=None):
    """The least filling that keeps the book and agrees with the part, None if there is none."""
    need_sheet(sheet)
    need_book(sheet, book)
    need_part_or_none(sheet, part)
    return least_filling(table_of(sheet, book), nothing_filled(sheet) if part is None else part)


def fillings(sheet, book, *, most=100):
    """Iterates over the first fillings that keep the book, ascending, at most so many."""
    need_sheet(sheet)
    need_book(sheet, book)
    need_most(most)
    table = table_of(sheet, book)
    # The fields before `field` are chosen; the least choices lie on top. By F2 each of them leads to a filling.
    begun = [] if table is None else [(0, nothing_filled(sheet))]
    told = 0
    while begun and told < most:
        field, come = begun.pop()
        if field == len(sheet):
            yield come
            told += 1
        else:
            for value in values_left(table, come, field)[::-1]:
                begun.append((field + 1, united(come, table[field][value])))
