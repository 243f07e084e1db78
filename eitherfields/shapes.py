"""The shapes of F4 of the document, and the essence that is made of them."""

from eitherfields.tables import nothing_filled, pairs_left, values_left


def least_shape(pairs):
    """The least shape that has some pairs of two fields whose values are all in them, for each pair once: a tuple
    ("all",), ("match",) or ("either", value, other_value).
    """
    lows = [low for low, _ in pairs]
    highs = [high for _, high in pairs]
    if alone(lows) or alone(highs):
        return ("all",)
    if once_each(lows) and once_each(highs):
        return ("match",)
    for value, other in crossings(pairs):
        if all([low == value or high == other for low, high in pairs]):
            return ("either", value, other)
    return ("all",)


def alone(values):
    """Whether all the values are the same one."""
    return all([value == values[0] for value in values])


def once_each(values):
    """Whether no value comes twice."""
    return all([values.count(value) == 1 for value in values])


def crossings(pairs):
    """The list of the pairs of a first value of some pair and a second value of some pair."""
    return [(low, high) for low, _ in pairs for _, high in pairs]


def shape_rule(field, other_field, pairs):
    """The rule that says the least shape of some pairs of two fields, None if it has all."""
    shape = least_shape(pairs)
    if shape[0] == "match":
        return ("match", field, other_field, tuple(pairs))
    if shape[0] == "either":
        return ("either", field, shape[1], other_field, shape[2])
    return None


def told_in_rules(sheet, values, met):
    """The book that says which values each field can have and, by triples (field, other_field, pairs), any two."""
    ranges = [("among", field, tuple(row)) for field, row in enumerate(values) if len(row) < sheet[field]]
    ties = [shape_rule(field, other_field, pairs) for field, other_field, pairs in met]
    return tuple(ranges + [rule for rule in ties if rule is not None])


def couples(sheet):
    """The ascending list of the pairs of two fields, the lesser one first."""
    return [(field, other) for field in range(len(sheet)) for other in range(field + 1, len(sheet))]


def table_essence(sheet, table):
    """The essence of a book by its table."""
    nothing = nothing_filled(sheet)
    values = [values_left(table, nothing, field) for field in range(len(sheet))]
    met = [(field, other, pairs_left(table, field, other)) for field, other in couples(sheet)]
    return told_in_rules(sheet, values, met)


def shown_essence(sheet, seen):
    """The essence of the book of F7 for some fillings.

    It is read off what is shown at once, as mixes bring no new value, and new pairs only within the least shape.
    """
    values = [shown_values(many, [filling[field] for filling in seen]) for field, many in enumerate(sheet)]
    met = [(field, other, shown_pairs(values[field], values[other], [(one[field], one[other]) for one in seen]))
           for field, other in couples(sheet)]
    return told_in_rules(sheet, values, met)


def shown_values(many, shown):
    """The ascending list of the values, below many, that are among those shown."""
    return [value for value in range(many) if value in shown]


def shown_pairs(lows, highs, shown):
    """The ascending list of the pairs of two ascending lists that are among those shown."""
    return [(low, high) for low in lows for high in highs if (low, high) in shown]
