"""What the tests share: all there is of a small sheet, the definitions worked out anew, and values that are wrong.

Nothing here asks the functions of the package, so that each answer of theirs has something to be held against.
"""

import random
from itertools import combinations, permutations, product

from eitherfields.books import RuleBook
from eitherfields.console import Console
from eitherfields.errors import FieldError, InvalidSheet
from eitherfields.forms import Form, StrictKeenForm

SMALL_SHEETS = [(1,), (2,), (4,), (2, 3), (3, 2), (1, 4), (2, 2, 2), (3, 1, 2), (2, 3, 2)]
LARGEST = (5,) * 8


# --- all parts, fillings and rules of a sheet

def all_fillings(sheet):
    return list(product(*[range(many) for many in sheet]))


def all_parts(sheet):
    return list(product(*[[None, *range(many)] for many in sheet]))


def all_choices(sheet):
    return [(field, value) for field, many in enumerate(sheet) for value in range(many)]


def among_rules(sheet):
    return [("among", field, entries) for field, many in enumerate(sheet)
            for size in range(many + 1) for entries in combinations(range(many), size)]


def matchings(many, other_many):
    return [tuple(zip(lows, highs)) for size in range(min(many, other_many) + 1)
            for lows in combinations(range(many), size) for highs in permutations(range(other_many), size)]


def match_rules(sheet):
    return [("match", low, high, pairs) for low, high in combinations(range(len(sheet)), 2)
            for pairs in matchings(sheet[low], sheet[high])]


def either_rules(sheet):
    return [("either", low, value, high, other) for low, high in combinations(range(len(sheet)), 2)
            for value in range(sheet[low]) for other in range(sheet[high])]


def all_rules(sheet):
    return among_rules(sheet) + match_rules(sheet) + either_rules(sheet)


# --- rules and books by a seed

def some_rule(dice, sheet, tight=0.5):
    """A rule; the greater tight is, the fewer values its among rules and matches leave out."""
    kind = dice.choice(["among", "match", "match", "either", "either", "either"])
    if kind == "among" or len(sheet) == 1:
        field = dice.randrange(len(sheet))
        return ("among", field, tuple(value for value in range(sheet[field]) if dice.random() < tight))
    low, high = sorted(dice.sample(range(len(sheet)), 2))
    if kind == "either":
        return ("either", low, dice.randrange(sheet[low]), high, dice.randrange(sheet[high]))
    size = min(sheet[low], sheet[high])
    lows, highs = dice.sample(range(sheet[low]), size), dice.sample(range(sheet[high]), size)
    return ("match", low, high, tuple(sorted(pair for pair in zip(lows, highs) if dice.random() < tight)))


def some_books(seed, sheet, many_books, most_rules, tight=0.8):
    dice = random.Random(seed)
    return [tuple(some_rule(dice, sheet, tight) for _ in range(dice.randint(0, most_rules)))
            for _ in range(many_books)]


def some_part(dice, sheet, fill=0.3):
    return tuple(dice.randrange(many) if dice.random() < fill else None for many in sheet)


# --- the definitions

def rule_keeps(rule, filling):
    kind, field, *more = rule
    if kind == "among":
        return filling[field] in more[0]
    if kind == "match":
        other_field, pairs = more
        return any(filling[field] == low and filling[other_field] == high for low, high in pairs)
    value, other_field, other_value = more
    return filling[field] == value or filling[other_field] == other_value


def keeping(sheet, book):
    return [filling for filling in all_fillings(sheet) if all(rule_keeps(rule, filling) for rule in book)]


def part_agrees(filling, part):
    return all(told is None or told == value for value, told in zip(filling, part))


def forced_by(rule, field, value):
    """The set of the pairs (field, value) that a value forces by a rule."""
    kind, low_field, *more = rule
    if kind == "match":
        high_field, pairs = more
        return ({(high_field, high) for low, high in pairs if (low_field, low) == (field, value)}
                | {(low_field, low) for low, high in pairs if (high_field, high) == (field, value)})
    if kind == "either":
        low, high_field, high = more
        if field == low_field and value != low:
            return {(high_field, high)}
        if field == high_field and value != high:
            return {(low_field, low)}
    return set()


def refused_by(rule, field, value):
    kind, low_field, *more = rule
    if kind == "among":
        return field == low_field and value not in more[0]
    if kind == "match":
        high_field, pairs = more
        return (field == low_field and value not in [low for low, _ in pairs]
                or field == high_field and value not in [high for _, high in pairs])
    return False


def all_come(book, start):
    """The set of all that comes from a set of pairs (field, value), clash or none."""
    come = set(start)
    while True:
        more = {new for field, value in come for rule in book for new in forced_by(rule, field, value)}
        if more <= come:
            return come
        come |= more


def clashes(book, come):
    return (len({field for field, _ in come}) < len(come)
            or any(refused_by(rule, field, value) for rule in book for field, value in come))


def part_followed(sheet, book, part):
    come = all_come(book, {(field, value) for field, value in enumerate(part) if value is not None})
    if clashes(book, come):
        return None
    values = dict(come)
    return tuple(values.get(field) for field in range(len(sheet)))


def paper_fault(book, field, value, paper):
    """Why a paper does not show that a value clashes, None if it does."""
    if type(paper) is not tuple or len(paper) != 2 or type(paper[0]) is not tuple:
        return "not a tuple of a tuple of steps and a rule"
    steps, last = paper
    come = {(field, value)}
    for step in steps:
        if type(step) is not tuple or len(step) != 3 or any(type(one) is not int for one in step):
            return f"no step: {step}"
        index, *new = step
        if not 0 <= index < len(book):
            return f"no rule of the book: {step}"
        if not any(tuple(new) in forced_by(book[index], *one) for one in come):
            return f"not forced: {step}"
        come.add(tuple(new))
    if last is None:
        return None if len({one for one, _ in come}) < len(come) else "no two values of one field"
    if type(last) is not int or not 0 <= last < len(book):
        return f"no rule of the book: {last}"
    return None if any(refused_by(book[last], *one) for one in come) else "nothing refused"


# --- books to try, each with all fillings that keep it

CASE_SHEETS = [(1,), (3,), (2, 3), (3, 3), (4, 2), (1, 3, 2), (2, 2, 2), (3, 3, 2), (2, 1, 3, 2)]
ODD_BOOKS = [
    ((1,), ()), ((4,), ()), ((2, 3, 2), ()), ((1, 1, 1), ()),
    ((1,), (("among", 0, ()),)), ((1,), (("among", 0, (0,)),)), ((2, 2), (("among", 1, ()),)),
    ((2, 3), (("match", 0, 1, ()),)), ((2, 2, 2), (("either", 0, 1, 2, 0), ("match", 1, 2, ()))),
    ((1, 1), (("match", 0, 1, ((0, 0),)), ("either", 0, 0, 1, 0))),
    ((1, 1), (("match", 0, 1, ((0, 0),)), ("match", 0, 1, ()))),
    ((3, 3), (("either", 0, 1, 1, 2), ("either", 0, 1, 1, 2))),
    ((3, 3), (("either", 0, 1, 1, 2), ("either", 0, 2, 1, 2))),
    ((3, 3), (("either", 0, 1, 1, 2), ("either", 0, 1, 1, 1))),
    ((3, 3, 2), (("either", 0, 0, 1, 2), ("match", 1, 2, ((0, 1), (2, 0))))),
    ((3, 3, 2), (("either", 0, 0, 1, 2), ("match", 1, 2, ((0, 1), (2, 0))), ("among", 1, (0,)))),
    ((2, 2, 2), (("among", 0, (0,)), ("among", 0, (0,)), ("among", 0, (1,)), ("among", 0, (1,)))),
    ((3, 3, 3), (("match", 0, 1, ((0, 0), (1, 1), (2, 2))), ("match", 1, 2, ((0, 1), (1, 2), (2, 0))))),
    ((3, 3, 3), (("match", 0, 1, ((0, 0), (1, 1), (2, 2))), ("match", 1, 2, ((0, 1), (1, 2), (2, 0))),
                 ("match", 0, 2, ((0, 0), (1, 1), (2, 2))))),
    ((2, 2, 2), (("either", 0, 0, 1, 0), ("either", 0, 1, 1, 0), ("either", 0, 0, 1, 1), ("either", 0, 1, 1, 1))),
    ((2, 2, 2), (("match", 0, 1, ((0, 0), (1, 1))), ("match", 0, 2, ((0, 0), (1, 1))),
                 ("match", 1, 2, ((0, 1), (1, 0))), ("among", 0, (0, 1)))),
]


def cases(seed, many_books=12, most_rules=6):
    """A list of triples (sheet, book, the list of the fillings that keep it): many, one and none."""
    books = [(sheet, book) for at, sheet in enumerate(CASE_SHEETS) for tight in (0.5, 0.8, 0.95)
             for book in some_books(100 * seed + at, sheet, many_books, most_rules, tight)]
    return [(sheet, book, keeping(sheet, book)) for sheet, book in ODD_BOOKS + books]


def books_of_two_rules(sheet):
    return [(sheet, book, keeping(sheet, book)) for book in product(all_rules(sheet), repeat=2)]


def shapes_told(pairs):
    """All shapes of F4 that a set of pairs has, each with its values."""
    lows, highs = {low for low, _ in pairs}, {high for _, high in pairs}
    told = [("all",)] if pairs == set(product(lows, highs)) else []
    if len(lows) > 1 and len(lows) == len(highs) == len(pairs):
        told.append(("match",))
    if len(lows) > 1 and len(highs) > 1:
        told += [("either", x, y) for x in sorted(lows) for y in sorted(highs)
                 if pairs == {(low, high) for low, high in product(lows, highs) if low == x or high == y}]
    return told


def essence_told(sheet, kept):
    """The essence of a book that these fillings, one or more, keep."""
    rules = []
    for field, many in enumerate(sheet):
        values = tuple(sorted({filling[field] for filling in kept}))
        if len(values) < many:
            rules.append(("among", field, values))
    for low, high in combinations(range(len(sheet)), 2):
        pairs = {(filling[low], filling[high]) for filling in kept}
        [told] = shapes_told(pairs)
        if told[0] == "match":
            rules.append(("match", low, high, tuple(sorted(pairs))))
        if told[0] == "either":
            rules.append(("either", low, told[1], high, told[2]))
    return tuple(rules)


def mix(first, second, third):
    return tuple(one if one == other else last for one, other, last in zip(first, second, third))


def with_mixes(seen):
    """The least set of F7 that has the fillings and with any three of its members their mix."""
    have = set(seen)
    while True:
        more = {mix(*three) for three in product(have, repeat=3)} - have
        if not more:
            return have
        have |= more


def left_out_one_by_one(book, spare):
    """The indexes left where, from the last rule on, each is left out if spare tells so of the rest and the rule."""
    left = list(range(len(book)))
    for at in range(len(book) - 1, -1, -1):
        rest = [one for one in left if one != at]
        if spare(tuple(book[one] for one in rest), book[at]):
            left = rest
    return left


# --- books of the largest sheet, whose fillings are too many to go through

def rule_fields(rule):
    return {"among": rule[1:2], "match": rule[1:3], "either": rule[1:4:2]}[rule[0]]


def tried(sheet, book, part=None):
    """The fillings that keep a book and agree with a part, ascending: value after value, until a rule is broken."""
    values = [range(many) if part is None or part[field] is None else [part[field]]
              for field, many in enumerate(sheet)]
    # Each rule can be asked as soon as the last one of its fields has a value.
    asked = [[rule for rule in book if max(rule_fields(rule)) == field] for field in range(len(sheet))]

    def longer(begun):
        if len(begun) == len(sheet):
            yield begun
            return
        for value in values[len(begun)]:
            more = begun + (value,)
            if all(rule_keeps(rule, more) for rule in asked[len(begun)]):
                yield from longer(more)

    return longer(())


def kept_rules(dice, sheet, shown, size, tight=0.9):
    """A book of so many rules that hold of all fillings shown."""
    book = []
    while len(book) < size:
        rule = some_rule(dice, sheet, tight)
        if all(rule_keeps(rule, filling) for filling in shown):
            book.append(rule)
    return tuple(book)


# --- values that are wrong

def nested(deep, wrap):
    value = 0
    for _ in range(deep):
        value = wrap(value)
    return value


def any_values():
    """Values of every kind, new ones at each call; nothing of a sheet of two to eight fields, but () is a book."""
    return [
        None, True, False, -1, 9, 10 ** 30, -10 ** 30, "", "a", "0", "among", "(1,)", "a in 0\n",
        [], (), [None], (None,), ["among", 0, ()], [("among", 0, ())], (-1,), (True,), (False,), ("0",), ((0,),),
        ([0],), FieldError("x"), InvalidSheet("x"), (InvalidSheet("x"),), (FieldError("x"), 1),
        RuleBook((1,)), (RuleBook((1,), ("among", 0, ())),), [RuleBook((2, 2))],
        Form((2, 2), ()), StrictKeenForm((1,), ()), (Form((1,), ()),), Console((3, 3, 2), ()), [Console((1,), ())],
        (0,) * 1999, [1] * 1999, (1,) * 9, (None,) * 9, nested(30, lambda value: (value,)),
        nested(30, lambda value: [value]), nested(15, lambda value: ([value],)),
        ("among",), ("match",), ("either",), ("among", None, None), ("match", [], [], []), ("either", 0, 0, 0, 0),
    ]


def never_in_a_rule(one):
    """Values of which none can stand in the place of this one in a sheet, rule or filling."""
    always = [None, True, False, -1, 10 ** 30, "0", "", InvalidSheet("x"), [one], (one,), [], [0], ["among"]]
    if isinstance(one, int):
        return [*always, str(one), ()]
    if isinstance(one, str):
        return [*always, 0, (), one.upper(), one + " ", one[:-1], *{"among", "match", "either"} - {one}]
    return [*always, 0, list(one), str(one)]


def spoiled(value):
    """The values that come of a tuple if one thing in it, at any depth, is replaced by what cannot stand there."""
    for at, one in enumerate(value):
        for wrong in never_in_a_rule(one):
            yield value[:at] + (wrong,) + value[at + 1:]
        if isinstance(one, tuple):
            for wrong in spoiled(one):
                yield value[:at] + (wrong,) + value[at + 1:]


def same(one, other):
    """Whether two values are equal and of the same kinds throughout."""
    if type(one) is not type(other):
        return False
    if isinstance(one, (list, tuple)):
        return len(one) == len(other) and all(same(a, b) for a, b in zip(one, other))
    return one is other or one == other


def copied(value):
    """The same value, its lists and tuples made anew."""
    if isinstance(value, tuple):
        return tuple([copied(one) for one in value])
    if isinstance(value, list):
        return [copied(one) for one in value]
    return value
