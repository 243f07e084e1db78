"""Forms that are filled in live: choices that can be taken back, and what they leave open."""

from eitherfields.checks import need_book, need_entry, need_field, need_sheet
from eitherfields.errors import Barred, NoBlock, NothingToClear, NothingToUndo
from eitherfields.pairs import to_blame
from eitherfields.sheets import part_of
from eitherfields.tables import come_of, filled_in, options_left, replaced, sure_values, table_of


class Form:
    """A part that is filled in choice by choice, and the book that it is to keep."""

    def __init__(self, sheet, book):
        need_sheet(sheet)
        need_book(sheet, book)
        self._sheet = sheet
        self._book = book
        self._table = table_of(sheet, book)
        # The list of the choices is never changed, only replaced, so that deeds and blocks can keep it as it was.
        self._choices = []
        # For each deed that undo can take back: its word, and the choices ahead of it.
        self._deeds = []
        # For each block: the choices and the deeds at its beginning.
        self._blocks = []

    @property
    def sheet(self):
        """The sheet of the form."""
        return self._sheet

    @property
    def book(self):
        """The book of the form."""
        return self._book

    @property
    def part(self):
        """What is filled in."""
        return self._chosen()

    @property
    def choices(self):
        """A new list of the choices (field, value) that stand, in the sequence in which they were made."""
        return list(self._choices)

    def choose(self, field, entry):
        """Fills a value in, as the last choice; returns the value chosen there before, or None."""
        need_field(self._sheet, field)
        need_entry(self._sheet, field, entry)
        before = self._chosen()[field]
        self._do("choose", self._choices_but(field) + [(field, entry)])
        return before

    def clear(self, field):
        """Empties a field and returns the value chosen there before."""
        need_field(self._sheet, field)
        before = self._chosen()[field]
        if before is None:
            raise NothingToClear("nothing is chosen in this field")
        self._do("clear", self._choices_but(field))
        return before

    def undo(self):
        """Takes back the last choose or clear that was not taken back, and returns its word."""
        if not self._deeds:
            raise NothingToUndo("nothing is left that can be taken back here")
        word, self._choices = self._deeds.pop()
        return word

    def options(self, field):
        """The ascending list of the values with which, in this field, the choices can be finished."""
        need_field(self._sheet, field)
        return options_left(self._table, replaced(self._chosen(), field, None), field)

    def stuck(self):
        """None if the choices can be finished; else the least tuple of fields that are to blame."""
        return to_blame(self._table, self._chosen())

    def begin(self):
        """Begins a block."""
        self._blocks.append((self._choices, self._deeds))
        self._deeds = []

    def finish(self):
        """Ends the innermost block and puts the form back to what it was at its beginning."""
        if not self._blocks:
            raise NoBlock("no block was begun that has not ended")
        self._choices, self._deeds = self._blocks.pop()

    def twin(self):
        """An independent copy, outside of all blocks, that can take back each deed of the form."""
        return with_all_deeds(Form(self._sheet, self._book), self)

    def __len__(self):
        return len(filled_in(self.part))

    def __getitem__(self, at):
        need_field(self._sheet, at)
        return self.part[at]

    def __iter__(self):
        raise TypeError("a form is not iterated over")

    def _chosen(self):
        """The part of the choices."""
        return part_of(self._sheet, self._choices)

    def _choices_but(self, field):
        """The list of the choices in other fields."""
        return [choice for choice in self._choices if choice[0] != field]

    def _do(self, word, choices):
        """Replaces the choices by a deed that undo can take back."""
        self._deeds.append((word, self._choices))
        self._choices = choices


# Each class below has all that the document lists for it in its own body, also where this does just what it does in
# the class above: L5 of the language asks for it.


class StrictForm(Form):
    """A form that takes no choice behind which the part cannot be finished."""

    def __init__(self, sheet, book):
        super().__init__(sheet, book)

    def choose(self, field, entry):
        """Fills a value in, as the last choice, or raises Barred; returns the value chosen there before, or None."""
        need_field(self._sheet, field)
        need_entry(self._sheet, field, entry)
        fields = to_blame(self._table, replaced(self._chosen(), field, entry))
        if fields is not None:
            raise Barred(fields)
        return super().choose(field, entry)

    def twin(self):
        """An independent copy, outside of all blocks, that can take back each deed of the form."""
        return with_all_deeds(StrictForm(self._sheet, self._book), self)


class KeenForm(Form):
    """A form that fills in by itself what is sure by the choices."""

    def __init__(self, sheet, book):
        super().__init__(sheet, book)

    @property
    def part(self):
        """What is chosen, and what is sure by it as long as the choices can be finished."""
        return with_what_is_sure(self._sheet, self._table, self._chosen())

    @property
    def choices(self):
        """A new list of the choices (field, value) that stand, in the sequence in which they were made."""
        return list(self._choices)

    def choose(self, field, entry):
        """Fills a value in, as the last choice; returns the value chosen there before, or None."""
        return super().choose(field, entry)

    def clear(self, field):
        """Takes a choice away and returns its value."""
        return super().clear(field)

    def options(self, field):
        """The ascending list of the values with which, in this field, the choices can be finished."""
        return super().options(field)

    def stuck(self):
        """None if the choices can be finished; else the least tuple of fields that are to blame."""
        return super().stuck()

    def twin(self):
        """An independent copy, outside of all blocks, that can take back each deed of the form."""
        return with_all_deeds(KeenForm(self._sheet, self._book), self)

    def __len__(self):
        return len(filled_in(self.part))

    def __getitem__(self, at):
        need_field(self._sheet, at)
        return self.part[at]


class StrictKeenForm(StrictForm, KeenForm):
    """A form that takes no choice that bars all fillings, and fills in by itself what is sure by the choices."""

    def __init__(self, sheet, book):
        super().__init__(sheet, book)

    @property
    def part(self):
        """What is chosen, and what is sure by it."""
        return with_what_is_sure(self._sheet, self._table, self._chosen())

    @property
    def choices(self):
        """A new list of the choices (field, value) that stand, in the sequence in which they were made."""
        return list(self._choices)

    def choose(self, field, entry):
        """Fills a value in, as the last choice, or raises Barred; returns the value chosen there before, or None."""
        return super().choose(field, entry)

    def clear(self, field):
        """Takes a choice away and returns its value."""
        return super().clear(field)

    def options(self, field):
        """The ascending list of the values with which, in this field, the choices can be finished."""
        return super().options(field)

    def stuck(self):
        """None if the choices can be finished; else the least tuple of fields that are to blame."""
        return super().stuck()

    def twin(self):
        """An independent copy, outside of all blocks, that can take back each deed of the form."""
        return with_all_deeds(StrictKeenForm(self._sheet, self._book), self)

    def __len__(self):
        return len(filled_in(self.part))

    def __getitem__(self, at):
        need_field(self._sheet, at)
        return self.part[at]


def with_what_is_sure(sheet, table, part):
    """The part with the values that are sure by it; as it is if it cannot be finished."""
    come = come_of(table, part)
    return part if come is None else part_of(sheet, sure_values(table, come))


def with_all_deeds(twin, form):
    """A new form, with the choices of another one and all deeds ahead of its blocks and in them."""
    twin._choices = form._choices
    twin._deeds = [deed for _, deeds in form._blocks for deed in deeds] + form._deeds
    return twin
