"""What a rule, a book and a part are as words by [16], with nothing of the package."""

LETTERS = "abcdefgh"


def rule_told(rule):
    """The list of the words of a rule."""
    kind, field, *more = rule
    if kind == "among":
        return [LETTERS[field], "in"] + ([str(entry) for entry in more[0]] or ["-"])
    if kind == "match":
        return [LETTERS[field], "with", LETTERS[more[0]]] + ([f"{low}:{high}" for low, high in more[1]] or ["-"])
    value, other_field, other_value = more
    return [LETTERS[field], str(value), "or", LETTERS[other_field], str(other_value)]


def book_told(book):
    told = []
    for rule in book:
        told += (["and"] if told else []) + rule_told(rule)
    return told or ["-"]


def part_told(part):
    return ["-" if value is None else str(value) for value in part]
