"""Rules, books and parts as words, and what words say.

A text is read by asking, place after place, for the words that can stand behind those ahead. The functions .._words
return the list of these, with None for the end of the text if it can end there.
"""

from eitherfields.checks import need_book, need_part, need_rule, need_sheet
from eitherfields.errors import InvalidWords
from eitherfields.sheets import fields_of

LETTERS = "abcdefgh"
DIGITS = "01234"


def write_rule(sheet, rule):
    """A rule as words."""
    need_sheet(sheet)
    need_rule(sheet, rule)
    return rule_text(rule)


def read_rule(sheet, words):
    """The rule that the words say."""
    need_sheet(sheet)
    need_words(words.split(" "), lambda ahead: rule_words(sheet, ahead))
    return told_rule(words)


def write_book(sheet, book):
    """A book as words."""
    need_sheet(sheet)
    need_book(sheet, book)
    return " and ".join(or_dash([rule_text(rule) for rule in book]))


def read_book(sheet, words):
    """The book that the words say."""
    need_sheet(sheet)
    need_words(words.split(" "), lambda ahead: book_words(sheet, ahead))
    return tuple([told_rule(text) for text in not_dash(words.split(" and "))])


def write_part(sheet, part):
    """A part as words."""
    need_sheet(sheet)
    need_part(sheet, part)
    return " ".join([digit_or_dash(value) for value in part])


def read_part(sheet, words):
    """The part that the words say."""
    need_sheet(sheet)
    need_words(words.split(" "), lambda ahead: part_words(sheet, ahead))
    return tuple([None if word == "-" else int(word) for word in words.split(" ")])


def digit_or_dash(value):
    """The word of a value, or of None."""
    return "-" if value is None else str(value)


def or_dash(words):
    """The words, or the one that stands for none."""
    return words if words else ["-"]


def not_dash(words):
    """The words without the one that stands for none."""
    return [word for word in words if word != "-"]


def rule_text(rule):
    """A rule as words."""
    letters = [LETTERS[field] for field in fields_of(rule)]
    if rule[0] == "among":
        return " ".join([letters[0], "in", *or_dash([str(entry) for entry in rule[2]])])
    if rule[0] == "match":
        return " ".join([letters[0], "with", letters[1], *or_dash([pair_word(low, high) for low, high in rule[3]])])
    return f"{letters[0]} {rule[2]} or {letters[1]} {rule[4]}"


def pair_word(value, other_value):
    """The word of a pair of values."""
    return f"{value}:{other_value}"


def told_rule(text):
    """The rule that a text of one says."""
    words = text.split(" ")
    field = LETTERS.index(words[0])
    if words[1] == "in":
        return ("among", field, tuple([int(word) for word in not_dash(words[2:])]))
    if words[1] == "with":
        return ("match", field, LETTERS.index(words[2]), tuple([told_pair(word) for word in not_dash(words[3:])]))
    return ("either", field, int(words[1]), LETTERS.index(words[3]), int(words[4]))


def told_pair(word):
    """The pair of values that the word of one says."""
    return int(word[0]), int(word[2])


def need_words(words, can_stand):
    """Raises InvalidWords unless each word, and the end, is among can_stand(the list of the words ahead of it)."""
    for place, word in enumerate([*words, None]):
        if word not in can_stand(words[:place]):
            raise InvalidWords(place)


def letters_from(sheet, field):
    """The list of the letters of a field and of those behind it."""
    return list(LETTERS[field:len(sheet)])


def digits_of(sheet, field):
    """The list of the digits of the values of a field."""
    return list(DIGITS[:sheet[field]])


def rule_words(sheet, ahead):
    """What can stand behind these words in a text of a rule."""
    if not ahead:
        return letters_from(sheet, 0)
    field = LETTERS.index(ahead[0])
    if len(ahead) == 1:
        # The last field has no other one behind it, as a match and an either rule need.
        return ["in", "with", *digits_of(sheet, field)] if field + 1 < len(sheet) else ["in"]
    if ahead[1] == "in":
        return among_words(sheet, field, ahead[2:])
    if ahead[1] == "with":
        return match_words(sheet, field, ahead[2:])
    return either_words(sheet, field, ahead[2:])


def among_words(sheet, field, ahead):
    """What can stand behind these words, which are those behind the word in."""
    digits = digits_of(sheet, field)
    return listed_words(digits, ahead, digits[int(ahead[-1]) + 1:] if not_dash(ahead) else [])


def listed_words(first, ahead, further):
    """What can stand in a list of words behind these ones: a dash or one of the first words, then the further ones."""
    return ["-", *first] if not ahead else [*further, None]


def match_words(sheet, field, ahead):
    """What can stand behind these words, which are those behind the word with."""
    if not ahead:
        return letters_from(sheet, field + 1)
    other_field = LETTERS.index(ahead[0])
    taken = [told_pair(word) for word in not_dash(ahead[1:])]
    free = [pair_word(value, other) for value in range(sheet[field]) for other in range(sheet[other_field])
            if all([value > low and other != high for low, high in taken])]
    return listed_words(free, ahead[1:], free if taken else [])


def either_words(sheet, field, ahead):
    """What can stand behind these words, which are those behind the letter and the digit of a field."""
    if not ahead:
        return ["or"]
    if len(ahead) == 1:
        return letters_from(sheet, field + 1)
    if len(ahead) == 2:
        return digits_of(sheet, LETTERS.index(ahead[1]))
    return [None]


def book_words(sheet, ahead):
    """What can stand behind these words in a text of a book."""
    if not ahead:
        return ["-", *rule_words(sheet, [])]
    if ahead == ["-"]:
        return [None]
    words = rule_words(sheet, behind_last_and(ahead))
    return [*words, "and"] if None in words else words


def behind_last_and(ahead):
    """The words behind the last word and, all of them if there is none."""
    many = [*ahead[::-1], "and"].index("and")
    return ahead[len(ahead) - many:]


def part_words(sheet, ahead):
    """What can stand behind these words in a text of a part."""
    return ["-", *digits_of(sheet, len(ahead))] if len(ahead) < len(sheet) else [None]
