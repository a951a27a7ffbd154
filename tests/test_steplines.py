import unittest

from stackorder.errors import InvalidText, TextError
from stackorder.linereadings import read_log, read_step
from stackorder.steplines import log_lines, step_line
from tests.helpers import BIG
from tests.plans import ADD
from tests.steps import LINES

# Strings that are no lines, each with its first word that cannot stand or the number of its words.
INVALID = (
    # No word at all, empty words, and words that begin no step.
    ("", 0), (" ", 0), ("  ", 0), (" drop a", 0), ("sub a", 0), ("Drop a", 0), ("drop\ta", 0), ("a", 0), ("-", 0), ("1", 0),
    ("undo", 0), ("spread", 0), ("try drop a", 0), ("bars drop a", 0), ("adda 1,5,-,-", 0), ("drop,a", 0), ("unbefor a b", 0),
    # A word is missing.
    ("add", 1), ("add a", 2), ("drop", 1), ("switch", 1), ("switch a", 2), ("before", 1), ("before a", 2), ("unbefore", 1),
    ("unbefore a", 2), ("amount", 1),
    # A name that cannot stand.
    ("add A 1,5,-,-", 1), ("add abcdefghi 1,5,-,-", 1), ("add 1 1,5,-,-", 1), ("add 1,5,-,-", 1), ("drop A", 1), ("drop a-b", 1),
    ("drop abcdefghi", 1), ("switch A on", 1), ("switch on", 2), ("switch 1", 1), ("before A b", 1), ("before a B", 2),
    ("before a b,", 2),
    ("before A B", 1), ("unbefore a 1", 2), ("unbefore - b", 1), ("add A", 1), ("before A", 1), ("switch - of", 1),
    ("add A 1,5,-", 1),
    # A clause that cannot stand, whichever of its parts it is.
    ("add a -", 2), ("add a 1", 2), ("add a 1,5,-", 2), ("add a 1,5,-,-,-", 2), ("add a 2/4,5,-,-", 2), ("add a 1,05,-,-", 2),
    ("add a -1,5,-,-", 2), ("add a 1,5,3,3", 2), ("add a 1,5,3,2", 2), ("add a 0,5,3,-", 2), ("add a 1,5,,-", 2),
    ("add a 1,5,-,x", 2),
    ("add a ,,,", 2), ("add a x", 2), (f"add a {BIG + 1},5,-,-", 2), ("add a x b", 2), ("add a 1,5,-,- b", 3),
    ("add a 1,5, -,-", 2),
    # A switch that cannot stand.
    ("switch a of", 2), ("switch a On", 2), ("switch a true", 2), ("switch a 1", 2), ("switch a a", 2), ("switch a onn", 2),
    ("switch a of b", 2),
    # An amount that cannot stand.
    ("amount x", 1), ("amount -", 1), ("amount -0", 1), ("amount 00", 1), ("amount +1", 1), ("amount 2/4", 1), ("amount 1/1", 1),
    ("amount 1/0", 1), ("amount 1/-2", 1), ("amount 1/2/3", 1), ("amount 1/", 1), ("amount /2", 1), ("amount 1.5", 1),
    (f"amount {BIG + 1}", 1), (f"amount -{BIG + 1}", 1), (f"amount 1/{BIG + 1}", 1), ("amount 1,2", 1), ("amount a b", 1),
    # A word too many, and empty words in the middle and at the end.
    ("drop a b", 2), ("drop a ", 2), ("drop  a", 1), ("drop ", 1), ("drop a  ", 2), ("switch a on off", 3), ("switch a on ", 3),
    ("switch  on", 1), ("switch a  on", 2), ("switch a ", 2), ("before a b c", 3), ("before a b ", 3), ("before a  b", 2),
    ("before  a b", 1), ("unbefore a b /", 3), ("amount 1 2", 2), ("amount 1 ", 2), ("amount  1", 1), ("amount ", 1),
    ("add a 1,5,-,- ", 3),
    ("add  a 1,5,-,-", 1), ("add a  1,5,-,-", 2), ("add ", 1), ("add a ", 2), ("drop a / drop b", 2),
)


class Writing(unittest.TestCase):
    def test_each_form(self):
        for step, line in LINES:
            self.assertEqual(step_line(step), line)
            self.assertIsInstance(step_line(step), str)

    def test_logs(self):
        steps, lines = zip(*LINES)
        self.assertEqual(log_lines(steps), list(lines))
        self.assertEqual(log_lines(()), [])
        self.assertEqual(log_lines(steps[:1]), list(lines[:1]))

    def test_a_returned_list_belongs_to_the_caller(self):
        log = (("drop", "a"), ("drop", "b"))
        lines = log_lines(log)
        lines.append("more")
        lines[0] = "other"
        self.assertEqual(log_lines(log), ["drop a", "drop b"])
        self.assertIs(type(log_lines(log)), list)

    def test_by_name(self):
        self.assertEqual(step_line(step=("drop", "a")), "drop a")
        self.assertEqual(log_lines(log=(("drop", "a"),)), ["drop a"])

    def test_example(self):
        self.assertEqual(step_line(("add", "cap", ((1, 1), (0, 1), None, (50, 1)))), "add cap 1,0,-,50")


class Reading(unittest.TestCase):
    def assertInvalid(self, line, field, read, given):
        with self.assertRaises(InvalidText) as caught:
            read(given)
        self.assertEqual((caught.exception.line, caught.exception.field), (line, field), given)
        self.assertIsInstance(caught.exception, TextError)

    def test_each_form(self):
        for step, line in LINES:
            self.assertEqual(read_step(line), step)
            self.assertEqual(repr(read_step(line)), repr(step))
            self.assertEqual(step_line(read_step(line)), line)

    def test_logs(self):
        steps, lines = zip(*LINES)
        self.assertEqual(read_log(list(lines)), steps)
        self.assertEqual(repr(read_log(list(lines))), repr(steps))
        self.assertEqual(read_log([]), ())
        self.assertEqual(read_log(log_lines(steps)), steps)

    def test_what_is_read_is_not_asked_whether_it_is_barred(self):
        lines = ["drop a", "drop a", "before a a", "unbefore a b", "switch a on", "switch a on", "add a 1,5,-,-", "add a 1,5,-,-"]
        self.assertEqual(log_lines(read_log(lines)), lines)

    def test_invalid_lines(self):
        for text, field in INVALID:
            self.assertInvalid(0, field, read_step, text)
            self.assertInvalid(0, field, read_log, [text])
            self.assertInvalid(2, field, read_log, ["drop a", "add a 1,5,-,-", text, "drop b"])

    def test_the_first_line_that_is_not_valid(self):
        self.assertInvalid(1, 2, read_log, ["drop a", "switch a of", "sub a", ""])
        self.assertInvalid(0, 0, read_log, ["", "drop a", "drop"])
        self.assertInvalid(2, 0, read_log, ["drop a", "drop b", ""])

    def test_lists_are_not_changed(self):
        lines = ["drop a", "drop b"]
        read_log(lines)
        self.assertEqual(lines, ["drop a", "drop b"])
        wrong = ["drop a", "drop"]
        self.assertInvalid(1, 1, read_log, wrong)
        self.assertEqual(wrong, ["drop a", "drop"])

    def test_what_was_read_is_a_tuple_of_steps(self):
        log = read_log(["drop a", "switch b off"])
        self.assertEqual([type(part) for part in (log, *log, read_step("drop a"))], [tuple] * 4)
        self.assertIs(log[1][2], False)
        self.assertIs(read_step("switch b on")[2], True)

    def test_by_name(self):
        self.assertEqual(read_step(text="add a 1,5,-,-"), ("add", "a", ADD))
        self.assertEqual(read_log(lines=["drop a"]), (("drop", "a"),))

    def test_example(self):
        self.assertInvalid(1, 2, read_log, ["drop a", "switch a of"])
