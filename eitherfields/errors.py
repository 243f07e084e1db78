"""The errors of the package, all of them directly under FieldError."""


class FieldError(ValueError):
    """What the errors of the package have in common."""


class InvalidSheet(FieldError):
    """Not a sheet."""


class InvalidField(FieldError):
    """Not a field of the sheet, or not another one than the first."""


class InvalidEntry(FieldError):
    """Not a value of the field."""


class InvalidRule(FieldError):
    """Not a rule of the sheet."""


class InvalidBook(FieldError):
    """Not a tuple of rules of the sheet."""


class InvalidPart(FieldError):
    """Not a part of the sheet."""


class InvalidFilling(FieldError):
    """Not a filling of the sheet."""


class InvalidChoice(FieldError):
    """Not fields that can be kept, fillings that can be learned from or a number that can be asked for."""


class InvalidIndex(FieldError):
    """Not the index of a rule."""


class Unkeepable(FieldError):
    """No filling is left that keeps the book."""


class NothingToClear(FieldError):
    """The field is empty."""


class NoBlock(FieldError):
    """No block was begun."""


class NothingToUndo(FieldError):
    """Nothing is left that can be taken back."""


class InvalidCommand(FieldError):
    """Not a command of the console."""


class Barred(FieldError):
    """A choice behind which the part cannot be finished: fields are to blame."""

    def __init__(self, fields):
        self.fields = fields


class InvalidWords(FieldError):
    """Words that are no text: the word at place cannot stand there, or is missing."""

    def __init__(self, place):
        self.place = place
