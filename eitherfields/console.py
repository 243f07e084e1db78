"""The console: a form that is filled in by words."""

from eitherfields.books import follows
from eitherfields.errors import FieldError, InvalidCommand, InvalidWords
from eitherfields.forms import Form
from eitherfields.keeping import finished
from eitherfields.words import LETTERS, digit_or_dash, digits_of, letters_from, need_words, or_dash, read_rule
from eitherfields.words import rule_words, write_part

MOST_TRIES = 8


class Console:
    """A form, and the commands for it."""

    def __init__(self, sheet, book):
        self._form = Form(sheet, book)

    def execute(self, command):
        """What a command puts out."""
        if not isinstance(command, str):
            raise InvalidCommand("a command is a string")
        words = command.split(" ")
        tries = tries_ahead(words)
        need_command(self._form.sheet, tries, words[tries:])
        return answered(self._form, tries, words[tries:])


def tries_ahead(words):
    """How many words try stand ahead."""
    many = 0
    while words[many:many + 1] == ["try"]:
        many += 1
    return many


def need_command(sheet, tries, words):
    """Raises InvalidCommand unless the words, behind so many words try, are a command."""
    if tries > MOST_TRIES:
        raise InvalidCommand("these are too many words try")
    try:
        need_words(words, lambda ahead: command_words(sheet, ahead))
    except InvalidWords:
        raise InvalidCommand("these words are no command") from None


def command_words(sheet, ahead):
    """The list of what can stand behind these words in a command without try, None for its end."""
    if not ahead:
        return list(ANSWERS)
    if ahead[0] == "follows":
        return rule_words(sheet, ahead[1:])
    if len(ahead) == 1 and ahead[0] in ("choose", "clear", "options"):
        return letters_from(sheet, 0)
    if len(ahead) == 2 and ahead[0] == "choose":
        return digits_of(sheet, LETTERS.index(ahead[1]))
    return [None]


def answered(form, tries, words):
    """What a command puts out inside of so many blocks, which end behind it, also if it raises an error."""
    if tries == 0:
        answer = ANSWERS[words[0]]
        return answer(form, words[1:])
    form.begin()
    try:
        told = answered(form, tries - 1, words)
    except FieldError:
        form.finish()
        raise
    form.finish()
    return told


def choose_answer(form, words):
    """Chooses; the digit that was there."""
    return digit_or_dash(form.choose(LETTERS.index(words[0]), int(words[1])))


def clear_answer(form, words):
    """Clears; the digit that was there."""
    return digit_or_dash(form.clear(LETTERS.index(words[0])))


def undo_answer(form, words):
    """Takes the last deed back; its word."""
    return form.undo()


def part_answer(form, words):
    """The part as words."""
    return write_part(form.sheet, form.part)


def options_answer(form, words):
    """The digits of the options."""
    return " ".join(or_dash([str(value) for value in form.options(LETTERS.index(words[0]))]))


def stuck_answer(form, words):
    """The letters of the fields that are to blame, or a word if there are none."""
    fields = form.stuck()
    if fields is None:
        return "none"
    return " ".join([LETTERS[field] for field in fields]) if fields else "book"


def finish_answer(form, words):
    """The least filling that agrees with the part, as words."""
    filling = finished(form.sheet, form.book, form.part)
    return "-" if filling is None else write_part(form.sheet, filling)


def follows_answer(form, words):
    """Whether the rule follows from the book."""
    rule = read_rule(form.sheet, " ".join(words))
    return "yes" if follows(form.sheet, form.book, rule) else "no"


# For each command its function, which takes the form and the words behind the command.
ANSWERS = {"choose": choose_answer, "clear": clear_answer, "undo": undo_answer, "part": part_answer,
           "options": options_answer, "stuck": stuck_answer, "finish": finish_answer, "follows": follows_answer}
