"""Following: what values force by the rules of a book, and whether they clash."""

from eitherfields.checks import need_book, need_entry, need_field, need_part, need_sheet
from eitherfields.sheets import fields_of, part_of


def followed(sheet, book, part):
    """The part that has come from the values of a part, None if they clash."""
    need_sheet(sheet)
    need_book(sheet, book)
    need_part(sheet, part)
    filled = [(field, value) for field, value in enumerate(part) if value is not None]
    come, paper = spread(rules_by_field(sheet, book), filled)
    # Without a clash no field has come twice.
    return part_of(sheet, come) if paper is None else None


def clash(sheet, book, field, entry):
    """None if the value, followed alone, does not clash; else a paper (steps, rule_index)."""
    need_sheet(sheet)
    need_book(sheet, book)
    need_field(sheet, field)
    need_entry(sheet, field, entry)
    _, paper = spread(rules_by_field(sheet, book), [(field, entry)])
    return paper


def rules_by_field(sheet, book):
    """For each field the list of the pairs (index, rule) of the rules that speak of it."""
    spoken = [fields_of(rule) for rule in book]
    return [[(index, rule) for index, rule in enumerate(book) if field in spoken[index]]
            for field in range(len(sheet))]


def spread(by_field, start):
    """Follows the values of start, pairs (field, value) of different fields, by the rules of a book by their fields.

    Returns the list of all that has come, and None or the paper of the first clash met, at which it ends.
    """
    come = list(start)
    steps = []
    at = 0
    while at < len(come):
        field, value = come[at]
        for index, rule in by_field[field]:
            if refuses(rule, field, value):
                return come, (tuple(steps), index)
            new = forced(rule, field, value)
            if new is None or new in come:
                continue
            steps.append((index, new[0], new[1]))
            if new[0] in [one for one, _ in come]:
                return come, (tuple(steps), None)
            come.append(new)
        at += 1
    return come, None


def refuses(rule, field, value):
    """Whether a rule refuses the value of the field."""
    if rule[0] == "among":
        return rule[1] == field and value not in rule[2]
    if rule[0] == "match":
        return field in (rule[1], rule[2]) and matched(rule, field, value) is None
    return False


def forced(rule, field, value):
    """The pair (field, value) that the value of a field forces by a rule, None if it forces nothing."""
    if rule[0] == "match":
        return matched(rule, field, value)
    if rule[0] == "either":
        return left_over(rule, field, value)
    return None


def matched(rule, field, value):
    """The pair (field, value) that stands with the value of a field in a pair of a match, None if none does."""
    _, low_field, high_field, pairs = rule
    for low, high in pairs:
        if (low_field, low) == (field, value):
            return high_field, high
        if (high_field, high) == (field, value):
            return low_field, low
    return None


def left_over(rule, field, value):
    """The pair (field, value) that an either rule leaves where its other side is missed, None if it is not missed."""
    _, low_field, low, high_field, high = rule
    if field == low_field and value != low:
        return high_field, high
    if field == high_field and value != high:
        return low_field, low
    return None
