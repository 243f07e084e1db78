"""[17] The console."""

import inspect
import random
import unittest
from itertools import product

from eitherfields import console
from eitherfields.console import Console
from eitherfields.errors import FieldError, InvalidBook, InvalidCommand, InvalidSheet, NothingToClear, NothingToUndo
from eitherfields.forms import Form
from tests.forms_told import Told, left_of
from tests.helpers import all_choices, all_rules, any_values, cases, keeping, rule_keeps, same
from tests.words_told import LETTERS, part_told, rule_told
from tests.wrong import few_wrong_values, wrong_values

SHEET = (3, 3, 2)
BOOK = (("either", 0, 0, 1, 2), ("match", 1, 2, ((0, 1), (2, 0))))
UNKEPT = BOOK + (("among", 1, ()),)
CASES = cases(8, many_books=4)


def command_told(sheet):
    """All commands of a sheet without try, each as a tuple (name, what it is about)."""
    fields = range(len(sheet))
    return ([("choose", choice) for choice in all_choices(sheet)] + [("clear", field) for field in fields]
            + [("options", field) for field in fields] + [("follows", rule) for rule in all_rules(sheet)]
            + [(name, None) for name in ("undo", "part", "stuck", "finish")])


def text_of(name, about):
    if name == "choose":
        return f"choose {LETTERS[about[0]]} {about[1]}"
    if name in ("clear", "options"):
        return f"{name} {LETTERS[about]}"
    if name == "follows":
        return "follows " + " ".join(rule_told(about))
    return name


class Answers:
    """What a console must put out, worked out from all fillings that keep its book."""

    def __init__(self, sheet, book, kept):
        self.told = Told(Form, sheet, book, kept)

    def answer(self, name, about):
        """What a command puts out, or the class of the error that it raises."""
        told = self.told
        if name == "choose":
            return self.digit(told.choose(*about))
        if name == "clear":
            return NothingToClear if told.chosen()[about] is None else self.digit(told.clear(about))
        if name == "undo":
            return told.undo() if told.can_undo() else NothingToUndo
        if name == "part":
            return " ".join(part_told(told.part()))
        if name == "options":
            return " ".join(str(value) for value in told.options(about)) or "-"
        if name == "stuck":
            fields = told.stuck()
            return "none" if fields is None else " ".join(LETTERS[field] for field in fields) or "book"
        if name == "finish":
            left = left_of(told.kept, told.part())
            return " ".join(part_told(min(left))) if left else "-"
        return "yes" if all(rule_keeps(about, filling) for filling in told.kept) else "no"

    def tried(self, tries, name, about):
        if tries == 0:
            return self.answer(name, about)
        self.told.begin()
        answer = self.tried(tries - 1, name, about)
        self.told.finish()
        return answer

    def digit(self, value):
        return "-" if value is None else str(value)


class ConsoleTest(unittest.TestCase):

    def raises(self, error, deed):
        with self.assertRaises(FieldError) as caught:
            deed()
        self.assertIs(type(caught.exception), error)

    def state(self, told):
        """All that a console puts out of its form without changing it, by commands that take no argument or a field."""
        return [told.execute(command) for command in ["part", "stuck", "finish"]]

    def check(self, told, answers, tries, name, about):
        command = "try " * tries + text_of(name, about)
        wanted = answers.tried(tries, name, about)
        if isinstance(wanted, str):
            answer = told.execute(command)
            self.assertIs(type(answer), str)
            self.assertEqual(answer, wanted, (answers.told.sheet, answers.told.book, answers.told.choices, command))
        else:
            self.raises(wanted, lambda: told.execute(command))

    def deeds_left(self, told):
        """How many deeds a console can take back; they are taken back."""
        many = 0
        while True:
            try:
                told.execute("undo")
            except NothingToUndo:
                return many
            many += 1


class Made(ConsoleTest):

    def test_the_class(self):
        self.assertEqual(Console.__module__, console.__name__)
        for name in ("__init__", "execute"):
            self.assertIn(name, vars(Console))
        self.assertEqual(list(inspect.signature(Console).parameters), ["sheet", "book"])
        self.assertEqual(list(inspect.signature(Console.execute).parameters), ["self", "command"])
        for told in (Console(SHEET, BOOK), Console(book=BOOK, sheet=SHEET), Console(SHEET, book=BOOK)):
            self.assertEqual(told.execute("part"), "- - -")
            self.assertEqual(told.execute(command="finish"), "0 0 1")

    def test_each_wrong_parameter(self):
        for wrong in wrong_values("sheet"):
            self.raises(InvalidSheet, lambda: Console(wrong, BOOK))
            self.raises(InvalidSheet, lambda: Console(wrong, None))
        for wrong in wrong_values("book"):
            self.raises(InvalidBook, lambda: Console(SHEET, wrong))
        for sheet, book in product([SHEET] + few_wrong_values("sheet"), [BOOK] + few_wrong_values("book")):
            if not same(sheet, SHEET):
                self.raises(InvalidSheet, lambda: Console(sheet, book))
            elif not same(book, BOOK):
                self.raises(InvalidBook, lambda: Console(sheet, book))

    def test_two_consoles_have_nothing_of_each_other(self):
        one, other = Console(SHEET, BOOK), Console(SHEET, BOOK)
        one.execute("choose a 1")
        self.assertEqual((one.execute("part"), other.execute("part")), ("1 - -", "- - -"))
        self.raises(NothingToUndo, lambda: other.execute("undo"))


class Commands(ConsoleTest):

    def check_all(self, rows, sheet=SHEET, book=BOOK):
        told = Console(sheet, book)
        for command, answer in rows:
            if isinstance(answer, str):
                self.assertEqual(told.execute(command), answer, command)
            else:
                self.raises(answer, lambda: told.execute(command))

    def test_each_command(self):
        self.check_all([
            ("part", "- - -"), ("stuck", "none"), ("finish", "0 0 1"), ("options a", "0 1 2"), ("options b", "0 2"),
            ("options c", "0 1"), ("clear a", NothingToClear), ("undo", NothingToUndo), ("choose a 1", "-"),
            ("part", "1 - -"), ("finish", "1 2 0"), ("options a", "0 1 2"), ("options b", "2"), ("options c", "0"),
            ("choose a 1", "1"), ("choose b 0", "-"), ("part", "1 0 -"), ("stuck", "a b"), ("finish", "-"),
            ("options c", "-"), ("options b", "2"), ("choose b 1", "0"), ("stuck", "b"), ("undo", "choose"),
            ("part", "1 0 -"), ("clear a", "1"), ("part", "- 0 -"), ("finish", "0 0 1"), ("undo", "clear"),
            ("part", "1 0 -"), ("undo", "choose"), ("undo", "choose"), ("part", "1 - -"), ("undo", "choose"),
            ("part", "- - -"), ("undo", NothingToUndo)])

    def test_follows(self):
        self.check_all([
            ("follows a 0 or b 2", "yes"), ("follows a 0 or c 0", "yes"), ("follows a 0 or c 1", "no"),
            ("follows b in 0 2", "yes"), ("follows b in 0", "no"), ("follows b in -", "no"),
            ("follows a in 0 1 2", "yes"), ("follows b with c 0:1 2:0", "yes"), ("follows b with c 0:1 1:0", "no"),
            ("follows b with c -", "no"),
            ("choose a 1", "-"), ("follows a in 1", "no"), ("follows b in 0", "no")])
        self.check_all([("follows b in -", "yes"), ("follows a 0 or b 2", "yes"), ("follows a with b -", "yes")],
                       book=UNKEPT)

    def test_a_book_that_is_not_keepable(self):
        self.check_all([("stuck", "book"), ("finish", "-"), ("options a", "-"), ("choose a 0", "-"), ("stuck", "book"),
                        ("part", "0 - -"), ("try clear a", "0"), ("undo", "choose"), ("stuck", "book")], book=UNKEPT)

    def test_sheets_of_one_and_of_eight_fields(self):
        self.check_all([("part", "-"), ("options a", "0"), ("choose a 0", "-"), ("finish", "0"),
                        ("choose b 0", InvalidCommand), ("choose a 1", InvalidCommand), ("follows a in 0", "yes"),
                        ("follows a in -", "no"),
                        ("follows a 0 or b 0", InvalidCommand)], (1,), ())
        self.check_all([("part", "- - - - - - - -"), ("options h", "0 1 2 3 4"), ("choose h 4", "-"),
                        ("part", "- - - - - - - 4"), ("finish", "0 0 0 0 0 0 0 4"), ("clear h", "4"),
                        ("choose i 0", InvalidCommand), ("choose h 5", InvalidCommand),
                        ("follows g 0 or h 0", "no")], (5,) * 8, ())

    def test_each_command_in_each_state_of_small_books(self):
        dice = random.Random(1)
        for sheet, book, kept in CASES:
            commands = command_told(sheet)
            told, answers = Console(sheet, book), Answers(sheet, book, kept)
            for name, about in dice.sample(commands, min(12, len(commands))) + commands[-4:]:
                self.check(told, answers, 0, name, about)
                self.check(told, answers, dice.randrange(1, 9), *dice.choice(commands))
        for sheet, book in ((SHEET, BOOK), ((2, 2), (("either", 0, 0, 1, 0),)), ((2, 2), (("among", 1, ()),))):
            for choice in [None] + all_choices(sheet):
                for tries in (0, 1, 2, 8):
                    for name, about in command_told(sheet):
                        told, answers = Console(sheet, book), Answers(sheet, book, keeping(sheet, book))
                        if choice is not None:
                            self.check(told, answers, 0, "choose", choice)
                        self.check(told, answers, tries, name, about)
                        for command in ("part", "stuck", "undo", "part"):
                            self.check(told, answers, 0, command, None)

    def test_long_walks(self):
        dice = random.Random(2)
        for sheet, book in ((SHEET, BOOK), ((2, 3, 2), ()), (SHEET, UNKEPT)):
            told, answers = Console(sheet, book), Answers(sheet, book, keeping(sheet, book))
            short = [command for command in command_told(sheet) if command[0] != "follows"]
            for _ in range(1500):
                tries = dice.choice([0, 0, 0, 1, 2, 8])
                self.check(told, answers, tries, *dice.choice(short))

    def test_beside_a_form(self):
        dice = random.Random(3)
        told, form = Console(SHEET, BOOK), Form(SHEET, BOOK)
        for _ in range(300):
            field = dice.randrange(3)
            value = dice.randrange(SHEET[field])
            before = form.choose(field, value)
            self.assertEqual(told.execute(f"choose {LETTERS[field]} {value}"), "-" if before is None else str(before))
            if dice.random() < 0.6:
                self.assertEqual(told.execute("undo"), form.undo())
            self.assertEqual(told.execute("part"), " ".join(part_told(form.part)))
            for field in range(3):
                self.assertEqual(told.execute("options " + LETTERS[field]),
                                 " ".join(map(str, form.options(field))) or "-")


class Try(ConsoleTest):

    def test_what_is_tried_is_not_done(self):
        for tries in range(1, 9):
            told = Console(SHEET, BOOK)
            told.execute("choose a 1")
            ahead = "try " * tries
            before = self.state(told)
            for command, answer in (("choose b 0", "-"), ("choose a 2", "1"), ("clear a", "1"), ("part", "1 - -"),
                                    ("finish", "1 2 0"), ("stuck", "none"), ("options b", "2"),
                                    ("follows a 0 or c 0", "yes")):
                self.assertEqual(told.execute(ahead + command), answer)
                self.assertEqual(self.state(told), before)
            self.assertEqual(self.deeds_left(told), 1)

    def test_nothing_can_be_taken_back_inside(self):
        for tries in range(1, 9):
            told = Console(SHEET, BOOK)
            told.execute("choose a 1")
            self.raises(NothingToUndo, lambda: told.execute("try " * tries + "undo"))
            self.assertEqual(told.execute("part"), "1 - -")
            self.assertEqual(told.execute("undo"), "choose")
            self.assertEqual(told.execute("part"), "- - -")

    def test_an_error_inside_ends_the_blocks(self):
        for tries in range(1, 9):
            told = Console(SHEET, BOOK)
            told.execute("choose a 1")
            for _ in range(3):
                self.raises(NothingToClear, lambda: told.execute("try " * tries + "clear b"))
                self.raises(NothingToUndo, lambda: told.execute("try " * tries + "undo"))
                self.raises(InvalidCommand, lambda: told.execute("try " * tries + "clear d"))
            self.assertEqual(self.state(told), ["1 - -", "none", "1 2 0"])
            self.assertEqual(self.deeds_left(told), 1)

    def test_a_ninth_word(self):
        for tries in (9, 10, 20, 900):
            for command in ("part", "choose a 0", "undo", "clear a", "x", ""):
                told = Console(SHEET, BOOK)
                self.raises(InvalidCommand, lambda: told.execute("try " * tries + command))
                self.assertEqual(self.deeds_left(told), 0)
        self.assertEqual(Console(SHEET, BOOK).execute("try " * 8 + "part"), "- - -")

    def test_try_alone(self):
        for tries in range(1, 12):
            told = Console(SHEET, BOOK)
            self.raises(InvalidCommand, lambda: told.execute("try " * tries))
            self.raises(InvalidCommand, lambda: told.execute(("try " * tries)[:-1]))


class NoCommand(ConsoleTest):

    def setUp(self):
        self.told = Console(SHEET, BOOK)
        self.told.execute("choose b 0")
        self.told.execute("choose a 0")

    def refused(self, command):
        before = self.state(self.told)
        self.raises(InvalidCommand, lambda: self.told.execute(command))
        self.assertEqual(self.state(self.told), before, command)

    def test_no_string(self):
        for value in any_values():
            if not isinstance(value, str):
                self.refused(value)
        for value in (["part"], ("part",), [["part"]], 0, None, True, Form(SHEET, BOOK), self.told):
            self.refused(value)

    def test_words_that_are_no_command(self):
        for command in (
                "", " ", "\n", "x", "PART", "Part", "parts", "par", "part ", " part", "part\n", "\npart", "part a",
                "part part", "undo 1", "undo a", "undo undo", "stuck a", "finish a", "finish 0", "stuck ", "finish\n",
                "choose", "choose a", "choose a ", "choose  a 0", "choose a  0", "choose a 0 ", "choose a 0 0",
                "choose a 3", "choose c 2", "choose d 0", "choose A 0", "choose a -", "choose a -1", "choose a 00",
                "choose 0 0", "choose a a", "choose a 0 b 0", "choose a 0\n", "choose\na 0", "choose a\n0",
                "choose ab 0", "choose a 01", "chose a 0", "clear", "clear ", "clear d", "clear 0", "clear a b",
                "clear a 0", "clear a ", "clear A", "clear -", "options", "options d", "options a 0", "options ",
                "options 0", "options a b", "follows", "follows ", "follows a", "follows a in", "follows a in 3",
                "follows a in 0 ", "follows -", "follows a in 0 and b in 0", "follows a 0 or b 3",
                "follows a 0 or a 0", "follows c with a 0:0", "follows a with b 0:0 0:1", "follows  a in 0",
                "follows a  in 0", "follows a in 0 follows", "begin", "twin", "try", "try ", "try x", "try  part",
                " try part", "try part ", "try part part", "Try part", "tries part", "part try", "choose try a 0",
                "try choose", "try choose a 3", "try follows a in 3", "try choose a 0 try", "try\npart", "and", "-",
                "a in 0", "0", "None", "execute part"):
            self.refused(command)
        self.assertEqual(self.deeds_left(self.told), 2)

    def test_near_to_each_command(self):
        for sheet in ((2,), (2, 1), (2, 2)):
            texts = {text_of(*command) for command in command_told(sheet)}
            told = Console(sheet, ())
            for text in texts:
                words = text.split(" ")
                others = ["", "x", "a", "c", "in", "or", "with", "-", "0", "2", "0:0", "try", "undo", "part"]
                near = {" ".join(words[:at] + [other] + words[at + more:])
                        for at in range(len(words) + 1) for more in (0, 1) for other in others}
                near |= {" ".join(words[:at] + words[at + 1:]) for at in range(len(words))}
                near |= {text.upper(), text + "\n", "\n" + text, text.replace(" ", "  "), text.replace(" ", "\n")}
                for command in near - texts:
                    if command.split(" ", 1)[0] != "try" or command.split(" ", 1)[-1] not in texts:
                        self.raises(InvalidCommand, lambda: told.execute(command))

    def test_a_command_is_looked_at_ahead_of_all(self):
        told = Console(SHEET, BOOK)
        self.raises(InvalidCommand, lambda: told.execute("clear d"))
        self.raises(InvalidCommand, lambda: told.execute("undo a"))
        self.raises(NothingToClear, lambda: told.execute("clear a"))
        self.raises(NothingToUndo, lambda: told.execute("undo"))
        self.raises(InvalidCommand, lambda: told.execute("try undo a"))


class Fillings(ConsoleTest):

    def test_choosing_by_options_until_all_is_filled(self):
        for sheet, book, kept in CASES:
            if not kept:
                continue
            told = Console(sheet, book)
            for field in reversed(range(len(sheet))):
                digits = told.execute("options " + LETTERS[field]).split(" ")
                self.assertEqual(told.execute(f"choose {LETTERS[field]} {digits[-1]}"), "-")
                self.assertEqual(told.execute("stuck"), "none")
            self.assertEqual(told.execute("part"), told.execute("finish"))
            self.assertIn(tuple(map(int, told.execute("part").split(" "))), kept)


if __name__ == "__main__":
    unittest.main()
