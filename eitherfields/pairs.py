"""Which values fields can have, alone and two together, and which choices are to blame for a dead end."""

from eitherfields.checks import need_book, need_entry, need_field, need_other_field, need_part, need_part_or_none
from eitherfields.checks import need_sheet
from eitherfields.errors import Unkeepable
from eitherfields.shapes import least_shape, table_essence
from eitherfields.tables import come_of, filled_in, meets, nothing_filled, options_left, pairs_left, replaced
from eitherfields.tables import sure_values, table_of


def can_be(sheet, book, field):
    """The ascending list of the values that the field can have."""
    need_sheet(sheet)
    need_book(sheet, book)
    need_field(sheet, field)
    return options_left(table_of(sheet, book), nothing_filled(sheet), field)


def pairs(sheet, book, field, other_field):
    """The ascending list of the pairs (value of field, value of other_field) that can be together."""
    need_sheet(sheet)
    need_book(sheet, book)
    need_field(sheet, field)
    need_other_field(sheet, field, other_field)
    table = table_of(sheet, book)
    return [] if table is None else pairs_left(table, field, other_field)


def shape(sheet, book, field, other_field):
    """The shape of the pairs of two fields, "all", "match" or "either"; "none" if the book is not keepable."""
    need_sheet(sheet)
    need_book(sheet, book)
    need_field(sheet, field)
    need_other_field(sheet, field, other_field)
    table = table_of(sheet, book)
    return "none" if table is None else least_shape(pairs_left(table, field, other_field))[0]


def essence(sheet, book):
    """The book that says what can be of the values and of the pairs, None if the book is not keepable."""
    need_sheet(sheet)
    need_book(sheet, book)
    table = table_of(sheet, book)
    return None if table is None else table_essence(sheet, table)


def sure(sheet, book, part=None):
    """The ascending list of the pairs (field, value) of all fillings that keep the book and agree with the part."""
    need_sheet(sheet)
    need_book(sheet, book)
    need_part_or_none(sheet, part)
    table = table_of(sheet, book)
    come = come_of(table, nothing_filled(sheet) if part is None else part)
    if come is None:
        raise Unkeepable("no filling keeps the book and agrees with the part")
    return sure_values(table, come)


def stuck(sheet, book, part):
    """None if the part can be finished; else the least tuple of fields that are to blame."""
    need_sheet(sheet)
    need_book(sheet, book)
    need_part(sheet, part)
    return to_blame(table_of(sheet, book), part)


def to_blame(table, part):
    """None if a part can be finished; else the least tuple of fields that are to blame, () if the table is None."""
    if table is None:
        return ()
    if come_of(table, part) is not None:
        return None
    filled = filled_in(part)
    bad = [field for field, value in filled if table[field][value] is None]
    if bad:
        return (bad[0],)
    # By F3 there are two fields whose values cannot be together.
    apart = [(field, other_field) for field, value in filled for other_field, other in filled
             if field < other_field and not meets(table[field][value], table[other_field][other])]
    return apart[0]


def barring(sheet, book, part, field, entry):
    """None if the part can be finished with the value in the field; else what bars it: () or (other_field,)."""
    need_sheet(sheet)
    need_book(sheet, book)
    need_part(sheet, part)
    need_field(sheet, field)
    need_entry(sheet, field, entry)
    table = table_of(sheet, book)
    others = replaced(part, field, None)
    if come_of(table, others) is None:
        raise Unkeepable("the part with this field empty cannot be finished")
    more = table[field][entry]
    if more is None:
        return ()
    bars = [other_field for other_field, value in filled_in(others) if not meets(table[other_field][value], more)]
    # By F3 the part can be finished if the value can be together with each other one.
    return (bars[0],) if bars else None
