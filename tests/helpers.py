"""What the tests share: all there is of a small sheet, the definitions worked out anew, and values that are wrong.

Nothing here asks the functions of the package, so that each answer of theirs has something to be held against.
"""

import random
from itertools import combinations, permutations, product

from eitherfields.errors import FieldError, InvalidSheet

SMALL_SHEETS = [(1,), (2,), (4,), (2, 3), (3, 2), (1, 4), (2, 2, 2), (3, 1, 2), (2, 3, 2)]
LARGEST = (5,) * 8


# --- all parts, fillings and rules of a sheet

def all_fillings(sheet):
    return list(product(*[range(many) for many in sheet]))


def all_parts(sheet):
    return list(product(*[[None, *range(many)] for many in sheet]))


def all_choices(sheet):
    return [(field, value) for field, many in enumerate(sheet) for value in range(many)]


def among_rules(sheet):
    return [("among", field, entries) for field, many in enumerate(sheet)
            for size in range(many + 1) for entries in combinations(range(many), size)]


def matchings(many, other_many):
    return [tuple(zip(lows, highs)) for size in range(min(many, other_many) + 1)
            for lows in combinations(range(many), size) for highs in permutations(range(other_many), size)]


def match_rules(sheet):
    return [("match", low, high, pairs) for low, high in combinations(range(len(sheet)), 2)
            for pairs in matchings(sheet[low], sheet[high])]


def either_rules(sheet):
    return [("either", low, value, high, other) for low, high in combinations(range(len(sheet)), 2)
            for value in range(sheet[low]) for other in range(sheet[high])]


def all_rules(sheet):
    return among_rules(sheet) + match_rules(sheet) + either_rules(sheet)


# --- rules and books by a seed

def some_rule(dice, sheet, tight=0.5):
    """A rule; the greater tight is, the fewer values its among rules and matches leave out."""
    kind = dice.choice(["among", "match", "match", "either", "either", "either"])
    if kind == "among" or len(sheet) == 1:
        field = dice.randrange(len(sheet))
        return ("among", field, tuple(value for value in range(sheet[field]) if dice.random() < tight))
    low, high = sorted(dice.sample(range(len(sheet)), 2))
    if kind == "either":
        return ("either", low, dice.randrange(sheet[low]), high, dice.randrange(sheet[high]))
    size = min(sheet[low], sheet[high])
    lows, highs = dice.sample(range(sheet[low]), size), dice.sample(range(sheet[high]), size)
    return ("match", low, high, tuple(sorted(pair for pair in zip(lows, highs) if dice.random() < tight)))


def some_books(seed, sheet, many_books, most_rules, tight=0.8):
    dice = random.Random(seed)
    return [tuple(some_rule(dice, sheet, tight) for _ in range(dice.randint(0, most_rules)))
            for _ in range(many_books)]


def some_part(dice, sheet, fill=0.3):
    return tuple(dice.randrange(many) if dice.random() < fill else None for many in sheet)


# --- the definitions

def rule_keeps(rule, filling):
    kind, field, *more = rule
    if kind == "among":
        return filling[field] in more[0]
    if kind == "match":
        other_field, pairs = more
        return any(filling[field] == low and filling[other_field] == high for low, high in pairs)
    value, other_field, other_value = more
    return filling[field] == value or filling[other_field] == other_value


def keeping(sheet, book):
    return [filling for filling in all_fillings(sheet) if all(rule_keeps(rule, filling) for rule in book)]


def part_agrees(filling, part):
    return all(told is None or told == value for value, told in zip(filling, part))


def forced_by(rule, field, value):
    """The set of the pairs (field, value) that a value forces by a rule."""
    kind, low_field, *more = rule
    if kind == "match":
        high_field, pairs = more
        return ({(high_field, high) for low, high in pairs if (low_field, low) == (field, value)}
                | {(low_field, low) for low, high in pairs if (high_field, high) == (field, value)})
    if kind == "either":
        low, high_field, high = more
        if field == low_field and value != low:
            return {(high_field, high)}
        if field == high_field and value != high:
            return {(low_field, low)}
    return set()


def refused_by(rule, field, value):
    kind, low_field, *more = rule
    if kind == "among":
        return field == low_field and value not in more[0]
    if kind == "match":
        high_field, pairs = more
        return (field == low_field and value not in [low for low, _ in pairs]
                or field == high_field and value not in [high for _, high in pairs])
    return False


def all_come(book, start):
    """The set of all that comes from a set of pairs (field, value), clash or none."""
    come = set(start)
    while True:
        more = {new for field, value in come for rule in book for new in forced_by(rule, field, value)}
        if more <= come:
            return come
        come |= more


def clashes(book, come):
    return (len({field for field, _ in come}) < len(come)
            or any(refused_by(rule, field, value) for rule in book for field, value in come))


def part_followed(sheet, book, part):
    come = all_come(book, {(field, value) for field, value in enumerate(part) if value is not None})
    if clashes(book, come):
        return None
    values = dict(come)
    return tuple(values.get(field) for field in range(len(sheet)))


def paper_fault(book, field, value, paper):
    """Why a paper does not show that a value clashes, None if it does."""
    if type(paper) is not tuple or len(paper) != 2 or type(paper[0]) is not tuple:
        return "not a tuple of a tuple of steps and a rule"
    steps, last = paper
    come = {(field, value)}
    for step in steps:
        if type(step) is not tuple or len(step) != 3 or any(type(one) is not int for one in step):
            return f"no step: {step}"
        index, *new = step
        if not 0 <= index < len(book):
            return f"no rule of the book: {step}"
        if not any(tuple(new) in forced_by(book[index], *one) for one in come):
            return f"not forced: {step}"
        come.add(tuple(new))
    if last is None:
        return None if len({one for one, _ in come}) < len(come) else "no two values of one field"
    if type(last) is not int or not 0 <= last < len(book):
        return f"no rule of the book: {last}"
    return None if any(refused_by(book[last], *one) for one in come) else "nothing refused"


# --- values that are wrong

def nested(deep, wrap):
    value = 0
    for _ in range(deep):
        value = wrap(value)
    return value


def any_values():
    """Values of every kind, new ones at each call; nothing of a sheet of two to eight fields, but () is a book."""
    return [
        None, True, False, -1, 9, 10 ** 30, -10 ** 30, "", "a", "0", "among", "(1,)", "a in 0\n",
        [], (), [None], (None,), ["among", 0, ()], [("among", 0, ())], (-1,), (True,), (False,), ("0",), ((0,),),
        ([0],), FieldError("x"), InvalidSheet("x"), (InvalidSheet("x"),), (FieldError("x"), 1),
        (0,) * 1999, [1] * 1999, (1,) * 9, (None,) * 9, nested(30, lambda value: (value,)),
        nested(30, lambda value: [value]), nested(15, lambda value: ([value],)),
        ("among",), ("match",), ("either",), ("among", None, None), ("match", [], [], []), ("either", 0, 0, 0, 0),
    ]


def never_in_a_rule(one):
    """Values of which none can stand in the place of this one in a sheet, rule or filling."""
    always = [None, True, False, -1, 10 ** 30, "0", "", InvalidSheet("x"), [one], (one,), [], [0], ["among"]]
    if isinstance(one, int):
        return [*always, str(one), ()]
    if isinstance(one, str):
        return [*always, 0, (), one.upper(), one + " ", one[:-1], *{"among", "match", "either"} - {one}]
    return [*always, 0, list(one), str(one)]


def spoiled(value):
    """The values that come of a tuple if one thing in it, at any depth, is replaced by what cannot stand there."""
    for at, one in enumerate(value):
        for wrong in never_in_a_rule(one):
            yield value[:at] + (wrong,) + value[at + 1:]
        if isinstance(one, tuple):
            for wrong in spoiled(one):
                yield value[:at] + (wrong,) + value[at + 1:]


def same(one, other):
    """Whether two values are equal and of the same kinds throughout."""
    if type(one) is not type(other):
        return False
    if isinstance(one, (list, tuple)):
        return len(one) == len(other) and all(same(a, b) for a, b in zip(one, other))
    return one is other or one == other


def copied(value):
    """The same value, its lists and tuples made anew."""
    if isinstance(value, tuple):
        return tuple([copied(one) for one in value])
    if isinstance(value, list):
        return [copied(one) for one in value]
    return value
