"""What follows from books, how two books stand to each other, and books as values with operators."""

from eitherfields.checks import between, filling_fits, need_book, need_entry, need_field, need_kept_fields, need_rule
from eitherfields.checks import need_seen, need_sheet
from eitherfields.errors import InvalidBook, InvalidIndex
from eitherfields.shapes import shown_essence, table_essence
from eitherfields.sheets import fields_of, rule_holds
from eitherfields.tables import least_filling, misses, rule_follows, table_of, whittled


def follows(sheet, book, rule):
    """Whether the rule holds of all fillings that keep the book."""
    need_sheet(sheet)
    need_book(sheet, book)
    need_rule(sheet, rule)
    return rule_follows(sheet, table_of(sheet, book), rule)


def breaking(sheet, book, rule):
    """The least filling that keeps the book and breaks the rule, None if there is none."""
    need_sheet(sheet)
    need_book(sheet, book)
    need_rule(sheet, rule)
    return least_breaking(sheet, table_of(sheet, book), (rule,))


def least_breaking(sheet, table, rules):
    """The least filling that keeps the book of a table and breaks some of the rules, None if there is none."""
    return least([least_filling(table, part) for rule in rules for part in misses(sheet, rule)])


def least(found):
    """The least of some fillings, None among them stands for no filling; None if there is none."""
    best = None
    for filling in found:
        if best is None or (filling is not None and filling < best):
            best = filling
    return best


def because(sheet, book, rule):
    """None if the rule does not follow; else the ascending list of the indexes of rules that it cannot spare."""
    need_sheet(sheet)
    need_book(sheet, book)
    need_rule(sheet, rule)
    if not rule_follows(sheet, table_of(sheet, book), rule):
        return None
    return whittled(book, lambda rest, left_out: rule_follows(sheet, table_of(sheet, rest), rule))


def alike(sheet, one, other):
    """Whether both books are kept by the same fillings."""
    need_sheet(sheet)
    need_book(sheet, one)
    need_book(sheet, other)
    return essence_or_none(sheet, one) == essence_or_none(sheet, other)


def essence_or_none(sheet, book):
    """The essence of a book, None if the book is not keepable."""
    table = table_of(sheet, book)
    return None if table is None else table_essence(sheet, table)


def parting(sheet, one, other):
    """The least filling that keeps just one of both books, None if there is none."""
    need_sheet(sheet)
    need_book(sheet, one)
    need_book(sheet, other)
    return least([least_breaking(sheet, table_of(sheet, one), other),
                  least_breaking(sheet, table_of(sheet, other), one)])


def needless(sheet, book):
    """The ascending list of the indexes of the rules that follow from the others, each one by itself."""
    need_sheet(sheet)
    need_book(sheet, book)
    return [index for index, rule in enumerate(book)
            if rule_follows(sheet, table_of(sheet, book[:index] + book[index + 1:]), rule)]


def lean(sheet, book):
    """The ascending list of the indexes of the rules left if, from the last one on, what follows is left out."""
    need_sheet(sheet)
    need_book(sheet, book)
    return whittled(book, lambda rest, left_out: rule_follows(sheet, table_of(sheet, rest), left_out))


def only(sheet, book, kept_fields):
    """The sheet of the fields that are kept, numbered anew, and the book that remains on them."""
    need_sheet(sheet)
    need_book(sheet, book)
    need_kept_fields(sheet, kept_fields)
    kept_sheet = tuple([sheet[field] for field in kept_fields])
    rules = essence_or_none(sheet, book)
    if rules is None:
        return kept_sheet, (("among", 0, ()),)
    # By F6 no pair of kept fields is lost, so what is left of the essence is an essence, too.
    return kept_sheet, tuple([renumbered(rule, kept_fields) for rule in rules if speaks_of(kept_fields, rule)])


def speaks_of(kept_fields, rule):
    """Whether the rule speaks of kept fields alone."""
    return all([field in kept_fields for field in fields_of(rule)])


def renumbered(rule, kept_fields):
    """A rule of kept fields, its fields numbered by their places among them."""
    places = [kept_fields.index(field) for field in fields_of(rule)]
    if rule[0] == "among":
        return ("among", places[0], rule[2])
    if rule[0] == "match":
        return ("match", places[0], places[1], rule[3])
    return ("either", places[0], rule[2], places[1], rule[4])


def learned(sheet, seen):
    """The book of the rules that hold of all fillings seen, as its essence."""
    need_sheet(sheet)
    need_seen(sheet, seen)
    return shown_essence(sheet, seen)


class RuleBook:
    """A book of a sheet that does not change."""

    def __init__(self, sheet, *rules):
        need_sheet(sheet)
        for rule in rules:
            need_rule(sheet, rule)
        self._sheet = sheet
        self._rules = rules

    @property
    def sheet(self):
        """The sheet of the book."""
        return self._sheet

    @property
    def rules(self):
        """The tuple of the rules."""
        return self._rules

    def __len__(self):
        return len(self._rules)

    def __getitem__(self, at):
        if not between(at, 0, len(self._rules) - 1):
            raise InvalidIndex("an index is an integer from 0 on, less than the number of rules")
        return self._rules[at]

    def __iter__(self):
        raise TypeError("a RuleBook is not iterated over")

    def __contains__(self, x):
        return filling_fits(self._sheet, x) and all([rule_holds(rule, x) for rule in self._rules])

    def __bool__(self):
        return table_of(self._sheet, self._rules) is not None

    def __and__(self, other):
        need_partner(self, other)
        return RuleBook(self._sheet, *self._rules, *other._rules)

    def __le__(self, other):
        need_partner(self, other)
        table = table_of(self._sheet, self._rules)
        return all([rule_follows(self._sheet, table, rule) for rule in other._rules])

    def __lt__(self, other):
        return self <= other and not other <= self

    def __eq__(self, other):
        return partners(self, other) and alike(self._sheet, self._rules, other._rules)

    def at(self, field, entry):
        """The book with one more rule, that the field has this value."""
        need_field(self._sheet, field)
        need_entry(self._sheet, field, entry)
        rule = ("among", field, (entry,))
        return RuleBook(self._sheet, *self._rules, rule)

    def only(self, kept_fields):
        """The RuleBook of the fields that are kept, numbered anew."""
        kept_sheet, book = only(self._sheet, self._rules, kept_fields)
        return RuleBook(kept_sheet, *book)

    def lean(self):
        """The RuleBook of the rules that are left if those that follow are left out."""
        rules = [self._rules[index] for index in lean(self._sheet, self._rules)]
        return RuleBook(self._sheet, *rules)

    @staticmethod
    def of(sheet, book):
        """The RuleBook of a book."""
        need_sheet(sheet)
        need_book(sheet, book)
        return RuleBook(sheet, *book)

    @staticmethod
    def told_by(sheet, seen):
        """The RuleBook of the rules that hold of all fillings seen."""
        book = learned(sheet, seen)
        return RuleBook(sheet, *book)


def partners(book, value):
    """Whether any value is a RuleBook of the same sheet as a RuleBook."""
    return isinstance(value, RuleBook) and value._sheet == book._sheet


def need_partner(book, value):
    """Raises InvalidBook unless it is a RuleBook of the same sheet."""
    if not partners(book, value):
        raise InvalidBook("a RuleBook of the same sheet is wanted")
