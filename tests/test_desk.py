import unittest
from math import factorial
from random import Random

from stackorder.books import Book
from stackorder.clauseclasses import Cap
from stackorder.desk import Desk
from stackorder.errors import InvalidCommand, InvalidStep, NothingToUndo, StackError, TextError
from stackorder.linereadings import read_step
from stackorder.steplines import step_line
from tests.helpers import ODD_VALUES
from tests.papers import orders_of_plan
from tests.plans import ADD, FIVE_OR_TEN, SALE, five_plans, long_plan, small_plans
from tests.steps import LINES, Model, is_step_by_form, random_step
from tests.test_steplines import INVALID

# Strings that are no commands.
NO_COMMANDS = (
    "", " ", "-", "ok", "Spread", "spread ", " spread", "spread  ", "spread now", "sure?", "sure ", " sure", "question",
    "questions ", "orders 5",
    " orders", "undo ", " undo", "undo 1", "count ", "counts", "log ", " log", "log /", "new ", " new", "new book", "spread\n",
    "\nspread",
    "do drop a", "go", "go drop a", "bars", "bars ", "bars spread", "bars undo", "bars -", "bars bars drop a", "bars try drop a",
    "bars drop a / drop b", "bars  drop a", " bars drop a", "bars drop a ", "try", "try ", "try spread", "try undo", "try /",
    "try / ",
    "try  drop a", " try drop a", "try drop a ", "try drop a /", "try drop a / ", "try / drop a", "try drop a/drop b",
    "try drop a /drop b",
    "try drop a/ drop b", "try drop a  / drop b", "try drop a /  drop b", "try drop a / / drop b", "try drop a / drop b /",
    "try try drop a",
    "try drop a / try drop b", "try drop a / spread", "try drop a / bars drop a", "try drop a, drop b", "drop a / drop b",
    "drop a\ndrop b",
    "drop a\n", "\ndrop a", "bars drop a\n", "try drop a\n/ drop b", "try drop a / drop b\n", "Try drop a", "plan", "amount",
    "undo undo",
)


def answer_by_trying(model, text):
    """What the desk answers, from a model of its book; None if the model bars it."""
    def spread(known):
        return " ".join(str(low) if high == 1 else f"{low}/{high}" for low, high in known.spread())

    if text == "spread":
        return spread(model)
    if text == "sure":
        return "yes" if len(set(model.spread())) == 1 else "no"
    if text == "questions":
        return ",".join(":".join(question) for question in model.open_questions()) or "-"
    if text == "orders":
        return str(len(model.orders()))
    if text == "count":
        return str(len(model.log))
    if text == "log":
        return " / ".join(step_line(step) for step in model.log) or "-"
    if text.startswith("bars "):
        return model.bar(read_step(text[5:])) or "-"
    trial = Model(model.log)
    for line in text[4:].split(" / "):
        step = read_step(line)
        if trial.bar(step) is not None:
            return None
        trial.do(step)
    return spread(trial)


class DeskCase(unittest.TestCase):
    def assertAnswers(self, desk, *rows):
        for text, answer in rows:
            found = desk.say(text)
            self.assertEqual((text, found), (text, answer))
            self.assertIs(type(found), str)

    def assertInvalid(self, desk, text, step, reason):
        with self.assertRaises(InvalidStep) as caught:
            desk.say(text)
        self.assertEqual((caught.exception.step, caught.exception.reason), (step, reason))

    def assertNoCommand(self, desk, text):
        with self.assertRaises(InvalidCommand) as caught:
            desk.say(text)
        self.assertIs(caught.exception.text, text)
        self.assertIsInstance(caught.exception, TextError)


def desk_with(plan, amount=(0, 1)):
    desk = Desk()
    for step in Book(plan=plan, amount=amount).log():
        desk.say(step_line(step))
    return desk


class Answers(DeskCase):
    def test_a_new_desk(self):
        self.assertAnswers(Desk(), ("spread", "0 0"), ("sure", "yes"), ("questions", "-"), ("orders", "1"), ("count", "0"),
                           ("log", "-"),
                           ("bars drop a", "name"), ("bars amount 5", "-"), ("try amount 5/2", "5/2 5/2"), ("new", "ok"))

    def test_each_command(self):
        desk = Desk()
        self.assertAnswers(
            desk, ("add cut 1,-5,0,-", "ok"), ("add off 9/10,0,-,-", "ok"), ("amount 100", "ok"), ("spread", "85 171/2"),
            ("sure", "no"),
            ("questions", "cut:off"), ("orders", "2"), ("count", "3"),
            ("log", "add cut 1,-5,0,- / add off 9/10,0,-,- / amount 100"),
            ("bars before cut off", "-"), ("bars before cut cut", "same"), ("bars before cut b", "name"), ("bars drop cut", "-"),
            ("try before cut off", "171/2 171/2"), ("try before off cut / amount 50", "40 40"),
            ("try drop cut / drop off", "100 100"),
            ("before cut off", "ok"), ("spread", "171/2 171/2"), ("sure", "yes"), ("questions", "-"), ("orders", "1"),
            ("bars before off cut", "circle"), ("bars before cut off", "pair"), ("switch off off", "ok"),
            ("bars switch off off", "same"),
            ("spread", "95 95"), ("undo", "switch off off"), ("unbefore cut off", "ok"), ("drop off", "ok"), ("spread", "95 95"),
            ("undo", "drop off"), ("undo", "unbefore cut off"), ("undo", "before cut off"), ("undo", "amount 100"),
            ("count", "2"),
            ("spread", "0 0"), ("amount -7/2", "ok"), ("spread", "0 0"), ("undo", "amount -7/2"), ("undo", "add off 9/10,0,-,-"),
            ("log", "add cut 1,-5,0,-"), ("new", "ok"), ("count", "0"), ("log", "-"),
        )
        with self.assertRaises(NothingToUndo) as caught:
            desk.say("undo")
        self.assertEqual(caught.exception.steps, 0)

    def test_every_line(self):
        for step, line in LINES:
            desk = Desk()
            for name in ("a", "b"):
                desk.say(f"add {name} 1,5,-,-")
            desk.say("switch a off")
            reason = Model(Book.read("add a 1,5,-,-\nadd b 1,5,-,-\nswitch a off").log()).bar(step)
            self.assertAnswers(desk, (f"bars {line}", reason or "-"))
            if reason is None:
                self.assertAnswers(desk, (line, "ok"), ("undo", line), ("count", "3"))
            else:
                self.assertInvalid(desk, line, step, reason)
                self.assertInvalid(desk, f"try {line}", step, reason)

    def test_questions(self):
        desk = desk_with(FIVE_OR_TEN)
        self.assertAnswers(desk, ("questions", "bent:double,cap:floor"), ("before cap floor", "ok"), ("questions", "bent:double"),
                           ("switch bent off", "ok"), ("questions", "-"))

    def test_plans(self):
        for plan in small_plans() + five_plans():
            for amount in ((5, 1), (-7, 2)):
                desk = desk_with(plan, amount)
                model = Model(Book(plan=plan, amount=amount).log())
                asked = ("spread", "sure", "questions", "orders", "count", "log", "try amount 9/2")
                self.assertAnswers(desk, *[(text, answer_by_trying(model, text)) for text in asked])

    def test_the_number_of_orders_is_counted_not_listed(self):
        for plan in small_plans():
            self.assertAnswers(desk_with(plan), ("orders", str(len(orders_of_plan(plan)))))
        # A single rule and ways of three, four and four rules.
        self.assertAnswers(desk_with(long_plan()), ("orders", str(factorial(12) // (6 * 24 * 24))))

    def test_the_sale(self):
        desk = desk_with(SALE)
        self.assertAnswers(desk, ("amount 50/9", "ok"), ("spread", "0 1/2"), ("amount 5", "ok"), ("spread", "0 0"),
                           ("sure", "yes"),
                           ("orders", "2"), ("questions", "cut:off"), ("try amount 6", "2/5 9/10"))

    def test_random_commands(self):
        random = Random(64)
        asked = ("spread", "sure", "questions", "orders", "count", "log")
        for _ in range(12):
            desk, model, count = Desk(), Model(), 0
            for count in range(1, 40):
                step = random_step(random, model)
                while not is_step_by_form(step):
                    step = random_step(random, model)
                line = step_line(step)
                kind = random.choice(("do", "do", "do", "bars", "try", "ask", "undo"))
                if kind == "ask":
                    text = random.choice(asked)
                    self.assertAnswers(desk, (text, answer_by_trying(model, text)))
                elif kind == "bars":
                    self.assertAnswers(desk, (f"bars {line}", answer_by_trying(model, f"bars {line}")))
                elif kind == "try":
                    text = f"try amount 20 / {line} / amount 5/2"
                    answer = answer_by_trying(model, text)
                    if answer is None:
                        self.assertInvalid(desk, text, step, model.bar(step))
                    else:
                        self.assertAnswers(desk, (text, answer))
                elif kind == "undo" and model.log:
                    self.assertAnswers(desk, ("undo", step_line(model.log[-1])))
                    model = Model(model.log[:-1])
                elif kind == "undo":
                    self.assertRaises(NothingToUndo, desk.say, "undo")
                elif model.bar(step) is None:
                    model.do(step)
                    self.assertAnswers(desk, (line, "ok"))
                else:
                    self.assertInvalid(desk, line, step, model.bar(step))
                self.assertEqual(desk.counts(), (count, count))

    def test_by_name(self):
        self.assertEqual(Desk().say(text="count"), "0")

    def test_example(self):
        desk = Desk()
        self.assertEqual([desk.say("add cut 9/10,0,-,-"), desk.say("amount 100"), desk.say("spread"),
                          desk.say("try add off 1,-10,-,- / before off cut")], ['ok', 'ok', '90 90', '81 81'])


class Errors(DeskCase):
    def test_strings_that_are_no_commands(self):
        for desk in (Desk(), desk_with(SALE, (20, 1))):
            log = desk.say("log")
            for text in NO_COMMANDS:
                self.assertNoCommand(desk, text)
            for text, _ in INVALID:
                if text not in ("undo", "spread", "try drop a", "bars drop a"):
                    self.assertNoCommand(desk, text)
                self.assertNoCommand(desk, f"bars {text}")
                if text != "drop a / drop b":
                    self.assertNoCommand(desk, f"try {text}")
                    self.assertNoCommand(desk, f"try drop a / {text}")
                    self.assertNoCommand(desk, f"try {text} / drop a")
            self.assertEqual(desk.say("log"), log)

    def test_lines_that_are_not_valid_in_a_trial(self):
        desk = desk_with(SALE)
        # Before all other errors: the first line is barred, the second one is not valid.
        self.assertNoCommand(desk, "try drop zzz / drop")
        self.assertNoCommand(desk, "try drop zzz / amount 2/4")
        self.assertInvalid(desk, "try drop zzz / drop yyy", ("drop", "zzz"), "name")
        self.assertInvalid(desk, "try drop cut / drop cut", ("drop", "cut"), "name")

    def test_errors_of_the_book(self):
        desk = desk_with(SALE, (20, 1))
        log = desk.say("log")
        for line, reason in (("add cut 1,5,-,-", "name"), ("drop zzz", "name"), ("switch cut on", "same"),
                             ("before cut zzz", "name"),
                             ("before cut cut", "same"), ("unbefore cut off", "pair")):
            self.assertInvalid(desk, line, read_step(line), reason)
            self.assertInvalid(desk, f"try amount 5 / {line} / amount 6", read_step(line), reason)
            self.assertAnswers(desk, (f"bars {line}", reason), ("log", log), ("spread", "13 27/2"))
        for name in "abcdefghij":
            desk.say(f"add {name} 1,5,-,-")
        self.assertAnswers(desk, ("bars add k 1,5,-,-", "full"))
        self.assertInvalid(desk, "add k 1,5,-,-", ("add", "k", ADD), "full")

    def test_a_trial_leaves_no_trace(self):
        desk = desk_with(SALE, (20, 1))
        asked = ("spread", "sure", "questions", "orders", "count", "log")
        before = [desk.say(text) for text in asked]
        desk.say("try drop cut / drop off / amount 7")
        self.assertInvalid(desk, "try drop cut / drop cut / amount 7", ("drop", "cut"), "name")
        self.assertEqual([desk.say(text) for text in asked], before)
        self.assertAnswers(desk, ("undo", "amount 20"))


class Counts(DeskCase):
    def test_every_string_counts(self):
        desk = Desk()
        self.assertEqual(desk.counts(), (0, 0))
        texts = ["add a 1,5,-,-", "add b 1,-5,0,-", "spread", "sure", "questions", "orders", "count", "log", "bars drop a",
                 "bars drop z",
                 "try drop a", "undo", "new", "spread", "", "x", "drop z", "try drop z", "undo", "bars x", "new", "amount 5",
                 " new", "count"]
        refused = 0
        for count, text in enumerate(texts, 1):
            try:
                desk.say(text)
            except StackError:
                refused += 1
            self.assertEqual(desk.counts(), (count, count))
            self.assertIs(type(desk.counts()), tuple)
        self.assertEqual(refused, 7)
        self.assertEqual(desk.say("count"), "1")

    def test_each_desk_has_its_own_book_and_counts(self):
        one, other = Desk(), Desk()
        one.say("amount 5")
        self.assertEqual((one.counts(), other.counts(), other.say("spread")), ((1, 1), (0, 0), "0 0"))

    def test_new_makes_another_book(self):
        desk = desk_with(SALE, (20, 1))
        self.assertAnswers(desk, ("new", "ok"), ("log", "-"), ("add cut 1,5,-,-", "ok"), ("log", "add cut 1,5,-,-"),
                           ("undo", "add cut 1,5,-,-"))
        self.assertRaises(NothingToUndo, desk.say, "undo")
        self.assertEqual(desk.counts(), (9, 9))

    def test_a_desk_is_equal_to_itself_alone(self):
        desk = Desk()
        for thing in (*ODD_VALUES, Desk(), Book(), Cap(most=(1, 1))):
            self.assertFalse(desk == thing)
            self.assertFalse(thing == desk)
        self.assertTrue(desk == desk)
