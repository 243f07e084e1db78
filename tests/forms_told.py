"""What a form must be by [15], worked out from all fillings that keep its book, with nothing of the package."""

from itertools import combinations

from eitherfields.forms import Form, KeenForm, StrictForm, StrictKeenForm
from tests.helpers import part_agrees, same

CLASSES = [Form, StrictForm, KeenForm, StrictKeenForm]
STRICT = [StrictForm, StrictKeenForm]
KEEN = [KeenForm, StrictKeenForm]


def put(part, field, value):
    return part[:field] + (value,) + part[field + 1:]


def left_of(kept, part):
    return [filling for filling in kept if part_agrees(filling, part)]


def stuck_told(kept, part):
    if not kept:
        return ()
    if left_of(kept, part):
        return None
    filled = [(field, value) for field, value in enumerate(part) if value is not None]
    for size in (1, 2):
        for choices in combinations(filled, size):
            if not any(all(filling[field] == value for field, value in choices) for filling in kept):
                return tuple(field for field, _ in choices)
    raise AssertionError("F3 is wrong")


def with_sure(kept, part):
    left = left_of(kept, part)
    if not left:
        return part
    return tuple(values.pop() if len(values) == 1 else None for values in [set(row) for row in zip(*left)])


class Told:
    """A form: its choices, and for each level of blocks the choices at its beginning and the deeds inside."""

    def __init__(self, kind, sheet, book, kept):
        self.kind, self.sheet, self.book, self.kept = kind, sheet, book, kept
        self.choices = []
        self.levels = [([], [])]

    def chosen(self):
        values = dict(self.choices)
        return tuple(values.get(field) for field in range(len(self.sheet)))

    def part(self):
        return with_sure(self.kept, self.chosen()) if self.kind in KEEN else self.chosen()

    def options(self, field):
        return [value for value in range(self.sheet[field]) if left_of(self.kept, put(self.chosen(), field, value))]

    def stuck(self):
        return stuck_told(self.kept, self.chosen())

    def barred(self, field, value):
        """The fields of Barred if the choice raises it, None if it is made."""
        return stuck_told(self.kept, put(self.chosen(), field, value)) if self.kind in STRICT else None

    def choose(self, field, value):
        before = self.chosen()[field]
        self.deed("choose", [one for one in self.choices if one[0] != field] + [(field, value)])
        return before

    def clear(self, field):
        before = self.chosen()[field]
        self.deed("clear", [one for one in self.choices if one[0] != field])
        return before

    def deed(self, word, choices):
        self.levels[-1][1].append((word, self.choices))
        self.choices = choices

    def can_undo(self):
        return bool(self.levels[-1][1])

    def undo(self):
        word, self.choices = self.levels[-1][1].pop()
        return word

    def begin(self):
        self.levels.append((self.choices, []))

    def finish(self):
        self.choices, _ = self.levels.pop()

    def twin(self):
        twin = Told(self.kind, self.sheet, self.book, self.kept)
        twin.choices = self.choices
        twin.levels = [([], [deed for _, deeds in self.levels for deed in deeds])]
        return twin


def look(form):
    """All that can be seen of a form without changing it."""
    fields = range(len(form.sheet))
    return (form.sheet, form.book, form.part, form.choices, len(form), [form[field] for field in fields],
            [form.options(field) for field in fields], form.stuck())


def look_told(told):
    fields = range(len(told.sheet))
    part = told.part()
    return (told.sheet, told.book, part, told.choices, sum(value is not None for value in part), list(part),
            [told.options(field) for field in fields], told.stuck())


def all_back(form):
    """The words of all deeds that a form can take back, and what it looks like behind each; it is left there."""
    rows = []
    while True:
        try:
            word = form.undo()
        except Exception as error:
            return rows + [type(error).__name__]
        rows.append((word, look(form)))


def all_back_told(told):
    rows = []
    while told.can_undo():
        word = told.undo()
        rows.append((word, look_told(told)))
    return rows + ["NothingToUndo"]


def looks_the_same(form, told):
    return same(look(form), look_told(told))
