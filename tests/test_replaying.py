import unittest
from random import Random

from stackorder.books import Book
from stackorder.clauseclasses import Cap
from stackorder.desk import Desk
from stackorder.errors import InvalidStep
from stackorder.replaying import is_log, replayed
from tests.helpers import ODD_VALUES
from tests.plans import ADD, CUT, SALE, five_plans, long_plan, small_plans
from tests.steps import LINES, NO_STEPS, Model, random_step
from tests.test_books import state_of

STEPS = tuple(step for step, _ in LINES)


class IsLog(unittest.TestCase):
    def test_logs(self):
        # Whether a step is barred does not matter.
        for log in ((), STEPS, STEPS[::-1], STEPS[:1] * 3, *[(step,) for step in STEPS], Book(plan=SALE).log()):
            self.assertIs(is_log(log), True)

    def test_other_values(self):
        for thing in ODD_VALUES + NO_STEPS + (list(STEPS), *STEPS, Book(), Desk(), Cap(most=(1, 1)), [Book()], (Book(),)):
            if thing not in ((), (("amount", (1, 1)),)):
                self.assertIs(is_log(thing), False, thing)

    def test_logs_with_a_value_that_is_no_step(self):
        for thing in NO_STEPS + (Book(), Desk(), STEPS, Cap(most=(1, 1))):
            for k in (0, 3, len(STEPS)):
                self.assertIs(is_log(STEPS[:k] + (thing,) + STEPS[k:]), False)

    def test_the_argument_is_not_changed(self):
        thing = [["drop", "a"], ("drop", "b")]
        self.assertIs(is_log(thing), False)
        self.assertEqual(thing, [["drop", "a"], ("drop", "b")])

    def test_example(self):
        self.assertEqual([is_log((("drop", "a"),)), is_log((("switch", "a", 1),)), str(replayed(()))], [True, False, '-'])
        self.assertIs(is_log(thing=()), True)


class Replayed(unittest.TestCase):
    def assertInvalid(self, log, step, reason):
        with self.assertRaises(InvalidStep) as caught:
            replayed(log)
        self.assertIs(caught.exception.step, step)
        self.assertEqual(caught.exception.reason, reason)

    def assertReplayed(self, book):
        again = replayed(book.log())
        self.assertIsInstance(again, Book)
        self.assertTrue(again == book and book == again)
        self.assertEqual(again.counts(), (0, 0))
        mine, other = state_of(again), state_of(book)
        self.assertEqual(mine[:8] + mine[9:], other[:8] + other[9:])
        return again

    def test_plans(self):
        for plan in small_plans() + five_plans():
            self.assertReplayed(Book(plan=plan, amount=(7, 2)))
        book = Book(plan=long_plan(), amount=(3, 1))
        again = replayed(book.log())
        self.assertEqual((again, again.plan, again.spread), (book, book.plan, book.spread))

    def test_it_does_the_same_from_then_on(self):
        random = Random(63)
        for _ in range(15):
            book, model = Book(), Model()
            for _ in range(12):
                step = random_step(random, model)
                if model.bar(step) is None:
                    model.do(step)
                    book.go(step)
            book.undo()
            model = Model(model.log[:-1])
            again = self.assertReplayed(book)
            for _ in range(8):
                step = random_step(random, model)
                if model.bar(step) is None:
                    model.do(step)
                    book.go(step)
                    again.go(step)
                else:
                    for each in (book, again):
                        with self.assertRaises(InvalidStep) as caught:
                            each.go(step)
                        self.assertEqual(caught.exception.reason, model.bar(step))
                self.assertEqual((again, again.plan, again.spread), (book, book.plan, book.spread))
            while len(book) > 0:
                self.assertEqual(again.undo(), book.undo())
                self.assertEqual((again, again.plan, again.amount), (book, book.plan, book.amount))

    def test_it_is_another_book(self):
        book = Book(plan=SALE)
        again = replayed(book.log())
        again.drop_rule("cut")
        self.assertNotEqual(again, book)
        self.assertEqual((book.plan, book.counts()), (SALE, (0, 0)))

    def test_the_first_barred_step(self):
        good = (("add", "a", ADD), ("add", "b", CUT), ("before", "a", "b"))
        for step, reason in ((("add", "a", ADD), "name"), (("before", "b", "a"), "circle"), (("before", "a", "b"), "pair"),
                             (("drop", "c"), "name"),
                             (("switch", "a", True), "same"), (("unbefore", "b", "a"), "pair"), (("switch", "a", 1), "shape"),
                             (None, "shape")):
            self.assertInvalid(good + (step,), step, reason)
            self.assertInvalid(good + (step, ("drop", "zzz"), None), step, reason)
        thirteen = tuple(("add", name, ADD) for name in "abcdefghijklm")
        self.assertInvalid(thirteen, thirteen[12], "full")
        self.assertInvalid(STEPS, STEPS[5], "name")

    def test_by_name(self):
        self.assertEqual(replayed(log=(("amount", (5, 1)),)), Book(amount=(5, 1)))
