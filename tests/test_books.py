import inspect
import unittest
from random import Random

from stackorder.books import Book
from stackorder.clauseclasses import Cap
from stackorder.desk import Desk
from stackorder.errors import InvalidAmount, InvalidStep, InvalidText, NothingToUndo, PlanError, StackError
from stackorder.planchecker import lets_plan
from tests.helpers import BIG, ODD_VALUES, chain_value, exact, named_plan, nested, pair_of, pieces_value
from tests.plans import (
    ADD, ADDS, BAND, CAP, CUT, DOUBLE, FIVE_OR_TEN, FOUR, HALF, HUGE, LESS, OFF, SALE, TINY, around, best_values, crossings,
    far_plan,
    five_plans, forms_of, long_plan, plan_of, small_plans,
)
from tests.steps import LINES, NO_STEPS, Model, random_step

THIRTEEN = "abcdefghijklm"


def state_of(book):
    """Everything that a book tells."""
    return (
        book.plan, book.amount, book.spread, book.is_sure, book.open_questions, book.log(), len(book), str(book), book.counts(),
        list(book.walk()), list(book.pieces_now()), list(book.pieces_now(greatest=True)),
    )


class BookCase(unittest.TestCase):
    def assertInvalid(self, step, reason, call, *args, **named):
        with self.assertRaises(InvalidStep) as caught:
            call(*args, **named)
        self.assertEqual((caught.exception.step, caught.exception.reason), (step, reason))
        self.assertEqual(repr(caught.exception.step), repr(step))
        self.assertIsInstance(caught.exception, PlanError)

    def assertLike(self, book, model, counts=None):
        """The book tells what is found from the model by trying all orders."""
        self.assertEqual((book.plan, book.amount, book.log(), len(book)),
                         (model.plan(), model.amount, tuple(model.log), len(model.log)))
        self.assertEqual((book.spread, book.open_questions), (model.spread(), model.open_questions()))
        self.assertIs(book.is_sure, book.spread[0] == book.spread[1])
        self.assertEqual(list(book.walk()), model.orders())
        kinds = [type(part) for part in (book.plan, book.amount, book.log(), book.spread, book.open_questions)]
        self.assertEqual(kinds, [tuple] * 5)
        if counts is not None:
            self.assertEqual(book.counts(), (counts, counts))


class Steps(BookCase):
    def test_every_step_by_go_and_by_its_own_method(self):
        steps = [("add", "b", CUT), ("add", "a", OFF), ("before", "b", "a"), ("switch", "b", False), ("amount", (5, 1)),
                 ("switch", "b", True), ("unbefore", "b", "a"), ("amount", (20, 1)), ("drop", "a"), ("add", "a", CAP),
                 ("drop", "b")]
        by_go, by_methods, model = Book(), Book(), Model()
        methods = {"add": "add_rule", "drop": "drop_rule", "switch": "switch_rule", "before": "put_before",
                   "unbefore": "take_before"}
        for k, step in enumerate(steps, 1):
            model.do(step)
            self.assertIsNone(by_go.go(step))
            if step[0] == "amount":
                self.assertEqual(by_methods.set_amount(step[1]), step[1])
            else:
                self.assertIsNone(getattr(by_methods, methods[step[0]])(*step[1:]))
            self.assertLike(by_go, model, k)
            self.assertLike(by_methods, model, k)
            self.assertEqual(by_go, by_methods)

    def test_by_name(self):
        book = Book(plan=((), ()), amount=(1, 1))
        book.add_rule(clause=CUT, name="a")
        book.add_rule(clause=OFF, name="b")
        book.put_before(second="a", first="b")
        book.take_before(second="a", first="b")
        book.switch_rule(is_on=False, name="a")
        book.drop_rule(name="b")
        self.assertEqual(book.set_amount(value=(2, 1)), (2, 1))
        self.assertIsNone(book.go(step=("drop", "a")))
        self.assertEqual(book.barred(step=("drop", "a")), "name")
        self.assertEqual(str(book), "amount 1 / add a 1,-5,0,- / add b 9/10,0,-,- / before b a / unbefore b a / switch a off / drop b"
                                    " / amount 2 / drop a")

    def test_a_dropped_rule_takes_its_pairs_with_it(self):
        plan = plan_of({"a": CUT, "b": OFF, "c": CAP}, (("a", "b"), ("b", "c"), ("a", "c")))
        book = Book(plan=plan)
        book.drop_rule("b")
        self.assertEqual(book.plan, plan_of({"a": CUT, "c": CAP}, (("a", "c"),)))
        book.add_rule("b", OFF)
        self.assertEqual(book.plan, plan_of({"a": CUT, "b": OFF, "c": CAP}, (("a", "c"),)))

    def test_a_rule_that_is_off_keeps_its_pairs(self):
        book = Book.made(("a", "b"), ("b", "c"), a=CUT, b=FOUR, c=OFF)
        book.switch_rule("b", False)
        self.assertEqual(book.plan[1], (("a", "b"), ("b", "c")))
        self.assertEqual((book.open_questions, list(book.walk())), ((), [("a", "c")]))
        self.assertEqual(book.barred(("before", "c", "a")), "circle")
        book.switch_rule("b", True)
        self.assertEqual(book.plan, plan_of({"a": CUT, "b": FOUR, "c": OFF}, (("a", "b"), ("b", "c"))))

    def test_an_added_rule_is_active_and_follows_nothing(self):
        book = Book(plan=plan_of({"a": CUT, "c": OFF}, (("a", "c"),), "a"))
        book.add_rule("b", CAP)
        self.assertEqual(book.plan, plan_of({"a": CUT, "b": CAP, "c": OFF}, (("a", "c"),), "a"))
        self.assertEqual(book.open_questions, (("b", "c"),))

    def test_the_same_amount_again_is_a_step(self):
        book = Book()
        book.amount = (0, 1)
        self.assertEqual(book.set_amount((0, 1)), (0, 1))
        book.go(("amount", (0, 1)))
        self.assertEqual((len(book), str(book), book.counts()), (3, "amount 0 / amount 0 / amount 0", (3, 3)))

    def test_integers_of_sixty_digits(self):
        book = Book()
        for step, _ in LINES[:5]:
            book.go(step)
        book.set_amount((BIG, BIG - 1))
        self.assertEqual(book.amount, (BIG, BIG - 1))
        self.assertEqual(Book.read(str(book).replace(" / ", "\n")), book)

    def test_the_arguments_are_not_changed(self):
        clause = [(1, 1), (5, 1), None, None]
        step = ["add", "a", clause]
        book = Book()
        self.assertInvalid(step, "shape", book.go, step)
        self.assertInvalid(("add", "a", clause), "shape", book.add_rule, "a", clause)
        self.assertEqual(book.barred(step), "shape")
        with self.assertRaises(InvalidAmount):
            book.amount = [1, 1]
        steps = [("add", "a", ADD), ("drop", "a")]
        self.assertEqual(book.do_all(*steps), 2)
        self.assertEqual((step, clause, steps), (["add", "a", [(1, 1), (5, 1), None, None]], [(1, 1), (5, 1), None, None],
                                                 [("add", "a", ADD), ("drop", "a")]))


class Barred(BookCase):
    def assertBarred(self, book, step, reason):
        before = state_of(book)
        self.assertEqual(book.barred(step), reason)
        self.assertEqual(state_of(book), before)
        with self.assertRaises(InvalidStep) as caught:
            book.go(step)
        self.assertIs(caught.exception.step, step)
        self.assertEqual(caught.exception.reason, reason)
        counts = before[8][0] + 1
        self.assertEqual(state_of(book), before[:8] + ((counts, counts),) + before[9:])
        with self.assertRaises(InvalidStep) as caught:
            book.tried(step)
        self.assertIs(caught.exception.step, step)
        self.assertEqual(book.counts(), (counts, counts))

    def test_values_that_are_no_steps(self):
        for book in (Book(), Book(plan=SALE, amount=(20, 1))):
            for thing in NO_STEPS:
                self.assertBarred(book, thing, "shape")
            for thing in (book, Desk(), Cap(most=(1, 1)), [book], ("amount", book), ("add", "a", Cap(most=(1, 1))),
                          ("drop", Desk())):
                self.assertBarred(book, thing, "shape")

    def test_each_word(self):
        book = Book(plan=plan_of({"a": CUT, "b": OFF, "c": CAP, "d": ADD}, (("a", "b"), ("b", "c")), "b"))
        for step, reason in (
            (("add", "a", ADD), "name"), (("add", "b", OFF), "name"), (("drop", "e"), "name"), (("switch", "e", True), "name"),
            (("switch", "a", True), "same"), (("switch", "b", False), "same"), (("before", "e", "a"), "name"),
            (("before", "a", "e"), "name"),
            (("before", "e", "e"), "name"), (("before", "a", "a"), "same"), (("before", "b", "b"), "same"),
            (("before", "a", "b"), "pair"),
            (("before", "b", "a"), "circle"), (("before", "c", "a"), "circle"), (("before", "c", "b"), "circle"),
            (("unbefore", "b", "a"), "pair"), (("unbefore", "a", "c"), "pair"), (("unbefore", "a", "a"), "pair"),
            (("unbefore", "e", "e"), "pair"),
        ):
            self.assertBarred(book, step, reason)
        for step in (("add", "e", ADD), ("drop", "b"), ("switch", "b", True), ("switch", "a", False), ("before", "a", "c"),
                     ("before", "d", "a"),
                     ("before", "c", "d"), ("unbefore", "a", "b"), ("amount", (0, 1)), ("amount", (-BIG, 8))):
            self.assertIsNone(book.barred(step))
            book.tried(step)

    def test_the_thirteenth_rule(self):
        self.assertEqual(Book.MOST, 12)
        self.assertEqual(Book().MOST, 12)
        book = Book()
        for k, name in enumerate(THIRTEEN[:12]):
            self.assertIsNone(book.barred(("add", "m", ADD)))
            book.add_rule(name, ADD)
            if k % 3:
                book.switch_rule(name, False)
        self.assertEqual(len(book.plan[0]), 12)
        self.assertBarred(book, ("add", "m", ADD), "full")
        # A name that is there comes before it.
        self.assertBarred(book, ("add", "a", ADD), "name")
        self.assertBarred(book, ("add", "M", ADD), "shape")
        book.drop_rule("b")
        self.assertIsNone(book.barred(("add", "m", ADD)))
        book.add_rule("m", ADD)
        self.assertBarred(book, ("add", "b", ADD), "full")
        self.assertInvalid(("add", "m", ADD), "full", Book, plan=named_plan(THIRTEEN, off=THIRTEEN))
        self.assertInvalid(("add", "m", ADD), "full", Book.made, **{name: ADD for name in THIRTEEN})

    def test_own_methods_raise_the_same(self):
        book = Book(plan=SALE)
        self.assertInvalid(("add", "cut", ADD), "name", book.add_rule, "cut", ADD)
        self.assertInvalid(("add", "Cut", ADD), "shape", book.add_rule, "Cut", ADD)
        self.assertInvalid(("drop", "zzz"), "name", book.drop_rule, "zzz")
        self.assertInvalid(("drop", None), "shape", book.drop_rule, None)
        self.assertInvalid(("switch", "cut", True), "same", book.switch_rule, "cut", True)
        self.assertInvalid(("switch", "cut", 0), "shape", book.switch_rule, "cut", 0)
        self.assertInvalid(("before", "cut", "cut"), "same", book.put_before, "cut", "cut")
        self.assertInvalid(("before", "cut", 1), "shape", book.put_before, "cut", 1)
        self.assertInvalid(("unbefore", "cut", "off"), "pair", book.take_before, "cut", "off")
        self.assertEqual((book.counts(), book.log()), ((9, 9), Book(plan=SALE).log()))

    def test_example(self):
        cap = ((1, 1), (0, 1), None, (50, 1))
        book = Book.made(("cap", "tax"), cap=cap, tax=((6, 5), (0, 1), None, None))
        self.assertEqual([book.barred(("before", "tax", "cap")), book.barred(("add", "cap", cap)), len(book)],
                         ["circle", "name", 3])

    def test_random_steps(self):
        random = Random(57)
        reasons = {}
        for _ in range(25):
            book, model = Book(), Model()
            for k in range(1, 30):
                step = random_step(random, model)
                reason = model.bar(step)
                reasons[reason] = reasons.get(reason, 0) + 1
                self.assertEqual(book.barred(step), reason)
                if reason is None:
                    model.do(step)
                    book.go(step)
                else:
                    self.assertInvalid(step, reason, book.go, step)
                if k % 7 == 0 or reason is None and random.random() < 0.3:
                    self.assertLike(book, model, k)
            self.assertLike(book, model, 29)
        self.assertEqual(set(reasons), {None, "shape", "name", "same", "pair", "circle"})


class Amounts(BookCase):
    def test_setting(self):
        for value in ((0, 1), (5, 1), (-7, 2), (BIG, BIG - 1), (10 ** 61, 1)):
            book = Book(plan=SALE)
            book.amount = value
            self.assertEqual((book.amount, book.log()[-1], book.counts()), (value, ("amount", value), (1, 1)))
            self.assertEqual(book.set_amount(value), value)
            self.assertEqual((len(book), book.counts()), (4, (2, 2)))

    def test_values_that_are_no_fractions(self):
        book = Book(plan=SALE, amount=(20, 1))
        before = state_of(book)
        count = 0
        for value in (*ODD_VALUES, nested(30), (2, 4), (1, 0), (0, 2), (1, -2), (True, 1), (1, True), [1, 2], (1, 2, 3), "1/2",
                      book, Desk(),
                      Cap(most=(1, 1)), [book], (book, 1)):
            for k in range(2):
                with self.assertRaises(InvalidAmount) as caught:
                    if k:
                        book.set_amount(value)
                    else:
                        book.amount = value
                self.assertIs(caught.exception.value, value)
                self.assertIsInstance(caught.exception, PlanError)
                count += 1
                self.assertEqual(state_of(book), before[:8] + ((count, count),) + before[9:])

    def test_go_raises_another_error(self):
        book = Book()
        self.assertInvalid(("amount", (2, 4)), "shape", book.go, ("amount", (2, 4)))

    def test_other_properties_cannot_be_set(self):
        book = Book(plan=SALE)
        for name in ("plan", "spread", "is_sure", "open_questions"):
            with self.assertRaises(AttributeError):
                setattr(book, name, ((), ()))
        self.assertEqual(book, Book(plan=SALE))

    def test_example(self):
        book = Book.empty()
        with self.assertRaises(InvalidAmount) as caught:
            book.amount = (2, 4)
        self.assertEqual(caught.exception.value, (2, 4))


class Making(BookCase):
    def test_a_new_book(self):
        for book in (Book(), Book.empty(), Book().empty(), Book.made(), Book.read(""), Book(plan=((), ()), amount=(0, 1))):
            self.assertEqual((book.plan, book.amount, book.log(), len(book), str(book)), (((), ()), (0, 1), (), 0, "-"))
            self.assertEqual((book.spread, book.is_sure, book.open_questions), (((0, 1), (0, 1)), True, ()))
            self.assertEqual((list(book.walk()), list(book.pieces_now())), ([()], [(None, (1, 1), (0, 1))]))
            self.assertEqual(book.counts(), (0, 0))
            self.assertIsInstance(book, Book)

    def test_plan_and_amount(self):
        for plan in small_plans() + five_plans():
            for amount in ((0, 1), (5, 1), (-7, 2)):
                book = Book(plan=plan, amount=amount)
                log = [("add", name, clause) for name, clause, _ in plan[0]] + [("before", *pair) for pair in plan[1]]
                log += [("switch", name, False) for name, _, is_on in plan[0] if not is_on]
                log += [("amount", amount)] if amount != (0, 1) else []
                self.assertEqual(book.log(), tuple(log))
                self.assertEqual((book.plan, book.amount, book.counts()), (plan, amount, (0, 0)))
                self.assertLike(book, Model(log))
        self.assertEqual(Book(amount=(3, 1)).log(), (("amount", (3, 1)),))
        self.assertEqual(Book(plan=ADDS).log(), (("add", "a", ADDS[0][0][1]), ("add", "b", ADDS[0][1][1])))

    def test_the_steps_of_a_plan_raise(self):
        rules = SALE[0]
        for plan, step, reason in (
            (((rules[0], rules[0]), ()), ("add", "cut", CUT), "name"),
            ((rules, (("cut", "zzz"),)), ("before", "cut", "zzz"), "name"),
            ((rules, (("cut", "cut"),)), ("before", "cut", "cut"), "same"),
            ((rules, (("cut", "off"), ("cut", "off"))), ("before", "cut", "off"), "pair"),
            ((rules, (("cut", "off"), ("off", "cut"))), ("before", "off", "cut"), "circle"),
        ):
            self.assertInvalid(step, reason, Book, plan=plan)
        self.assertInvalid(("amount", (2, 4)), "shape", Book, amount=(2, 4))
        self.assertInvalid(("amount", (0, True)), "shape", Book, amount=(0, True))

    def test_arguments_by_name_only(self):
        with self.assertRaises(TypeError):
            Book(SALE)

    def test_made(self):
        book = Book.made(("c", "a"), ("b", "a"), b=OFF, c=CAP, a=CUT)
        self.assertEqual(book.log(), (("add", "a", CUT), ("add", "b", OFF), ("add", "c", CAP), ("before", "c", "a"), ("before",
                                                                                                                      "b", "a")))
        self.assertEqual(book.plan, plan_of({"a": CUT, "b": OFF, "c": CAP}, (("b", "a"), ("c", "a"))))
        self.assertEqual(book.counts(), (0, 0))
        self.assertEqual(Book.made(("b", "a"), ("c", "a"), a=CUT, b=OFF, c=CAP).log()[3:],
                         (("before", "b", "a"), ("before", "c", "a")))
        self.assertNotEqual(Book.made(("b", "a"), ("c", "a"), a=CUT, b=OFF, c=CAP), book)
        self.assertEqual(Book.made(a=CUT, c=CAP, b=OFF).log(), book.log()[:3])

    def test_made_on_an_object(self):
        book = Book(plan=SALE)
        self.assertEqual(book.made(a=CUT), Book.made(a=CUT))
        self.assertEqual(book.empty(), Book())
        self.assertEqual(book.read("amount 5"), Book(amount=(5, 1)))
        self.assertEqual(book.amount_of("5/2"), (5, 2))
        self.assertEqual((book, book.counts()), (Book(plan=SALE), (0, 0)))

    def test_made_with_any_keywords(self):
        # Names of parameters, of the class and of methods are names of rules, too.
        names = ("self", "pairs", "clauses", "plan", "amount", "steps", "keep", "text")
        book = Book.made(("self", "plan"), **{name: ADD for name in names})
        self.assertEqual([name for name, _, _ in book.plan[0]], sorted(names))
        self.assertEqual(book.plan[1], (("self", "plan"),))

    def test_made_with_barred_steps(self):
        self.assertInvalid(("add", "B", ADD), "shape", Book.made, a=ADD, B=ADD, c=None)
        self.assertInvalid(("add", "c", None), "shape", Book.made, a=ADD, c=None, d=True)
        self.assertInvalid(("add", "abcdefghi", ADD), "shape", Book.made, abcdefghi=ADD)
        for pair, reason in ((("a", "a"), "same"), (("a", "zzz"), "name"), (("zzz", "a"), "name"), (("b", "a"), "circle"),
                             (("a", "b"), "pair")):
            self.assertInvalid(("before", *pair), reason, Book.made, ("a", "b"), pair, ("b", "b"), a=ADD, b=CUT)
        self.assertInvalid(("add", "b", (1, 2)), "shape", Book.made, ("z", "z"), a=ADD, b=(1, 2))

    def test_read(self):
        lines = [line for _, line in LINES if line.startswith(("add", "amount"))]
        steps = tuple(step for step, line in LINES if line in lines)
        self.assertEqual(Book.read("\n".join(lines)).log(), steps)
        self.assertEqual(Book.read("add a 1,5,-,-\nadd b 1,0,-,20\nbefore b a\nswitch a off\namount 7/2").plan,
                         plan_of({"a": ADD, "b": CAP}, (("b", "a"),), "a"))
        self.assertEqual(Book.read(text="amount 5").counts(), (0, 0))

    def test_read_invalid_lines(self):
        for text, line, field in (
            ("\n", 0, 0), ("amount 5\n", 1, 0), ("\namount 5", 0, 0), ("amount 5\n\namount 6", 1, 0), ("amount 5\n ", 1, 0),
            (" ", 0, 0),
            ("amount 5 \namount x", 0, 2), ("drop a\nswitch a of", 1, 2), ("drop a / drop b", 0, 2), ("amount 5\n\n", 1, 0),
            ("drop a\ndrop", 1, 1), ("drop a\nadd a 1,2,-", 1, 2),
        ):
            with self.assertRaises(InvalidText) as caught:
                Book.read(text)
            self.assertEqual((caught.exception.line, caught.exception.field), (line, field))

    def test_read_barred_lines(self):
        self.assertInvalid(("drop", "a"), "name", Book.read, "drop a\nbefore a a")
        self.assertInvalid(("before", "a", "a"), "same", Book.read, "add a 1,5,-,-\nbefore a a\ndrop b")
        text = "\n".join(f"add {name} 1,5,-,-" for name in THIRTEEN)
        self.assertInvalid(("add", "m", ADD), "full", Book.read, text)

    def test_amount_of(self):
        self.assertEqual([Book.amount_of(text) for text in ("0", "-7/2", str(BIG))], [(0, 1), (-7, 2), (BIG, 1)])
        self.assertEqual(Book.amount_of(text="3"), (3, 1))
        for text in ("", " 1", "1 ", "2/4", "x", "1/0", "-0", "+1", "1.5", str(BIG + 1), "-", "1,0,-,-"):
            with self.assertRaises(InvalidText) as caught:
                Book.amount_of(text)
            self.assertEqual((caught.exception.line, caught.exception.field), (0, 0))

    def test_examples(self):
        percent, ten = ((9, 10), (0, 1), None, None), ((1, 1), (-10, 1), None, None)
        book = Book.made(cut=percent, off=ten)
        book.amount = (100, 1)
        self.assertEqual([book.spread, book.is_sure, book.open_questions], [((80, 1), (81, 1)), False, (('cut', 'off'),)])


class Results(BookCase):
    def assertPieces(self, book):
        """The pieces are the least and the greatest of what the chains make, also between and around their bends."""
        for pick, pieces in ((min, list(book.pieces_now())), (max, list(book.pieces_now(greatest=True)))):
            self.assertIsNone(pieces[0][0])
            begins = [exact(begin) for begin, _, _ in pieces[1:]]
            self.assertEqual(begins, sorted(set(begins)))
            orders = [[dict((name, clause) for name, clause, _ in book.plan[0])[name] for name in order] for order in book.walk()]
            for amount in around(sorted({*begins, *crossings(forms_of(book.plan))}))[::3]:
                outcomes = [exact(chain_value(clauses, pair_of(amount))) for clauses in orders]
                self.assertEqual(pieces_value(pieces, pair_of(amount)), pair_of(pick(outcomes)))

    def test_behind_each_kind_of_step(self):
        steps = (("add", "b", CUT), ("add", "a", OFF), ("amount", (20, 1)), ("before", "b", "a"), ("add", "c", CAP),
                 ("switch", "a", False),
                 ("switch", "a", True), ("unbefore", "b", "a"), ("add", "d", DOUBLE), ("amount", (7, 2)), ("drop", "c"),
                 ("drop", "b"))
        book, model = Book(), Model()
        for step in steps:
            book.go(step)
            model.do(step)
            self.assertLike(book, model)
            self.assertPieces(book)
        while len(book) > 0:
            book.undo()
            model = Model(model.log[:-1])
            self.assertLike(book, model)

    def test_plans(self):
        for plan in small_plans()[::3] + five_plans()[:2]:
            for amount in ((5, 1), (-7, 2)):
                book = Book(plan=plan, amount=amount)
                self.assertLike(book, Model(book.log()))
        self.assertPieces(Book(plan=FIVE_OR_TEN))

    def test_reading_changes_nothing(self):
        book = Book(plan=FIVE_OR_TEN, amount=(7, 1))
        before = state_of(book)
        for _ in range(3):
            book.plan, book.amount, book.spread, book.is_sure, book.open_questions
            book.barred(("drop", "cap")), book.log(), len(book), str(book), book == Book(), book != book
            list(book.walk()), list(book.pieces_now()), list(book.pieces_now(greatest=True)), book.counts(), book.tried()
            self.assertEqual(state_of(book), before)

    def test_generators(self):
        book = Book.made(a=ADD, b=CUT, c=CAP)
        one, other = book.walk(), book.walk()
        self.assertTrue(inspect.isgenerator(one))
        self.assertEqual([next(one), next(one), next(other), next(one)],
                         [("a", "b", "c"), ("a", "c", "b"), ("a", "b", "c"), ("b", "a", "c")])
        self.assertEqual(len(list(other)), 5)
        self.assertEqual(len(list(one)), 3)
        left = book.walk()
        next(left)
        least, greatest = book.pieces_now(), book.pieces_now(greatest=True)
        self.assertTrue(inspect.isgenerator(least))
        self.assertIsNone(next(least)[0])
        self.assertIsNone(next(greatest)[0])
        self.assertEqual(list(book.pieces_now())[1:], list(least))
        self.assertEqual(list(book.pieces_now(greatest=True))[1:], list(greatest))
        self.assertEqual(book.counts(), (0, 0))
        # One was left in the middle; the book goes on, and a new one walks the new orders.
        book.drop_rule("c")
        self.assertEqual(list(book.walk()), [("a", "b"), ("b", "a")])

    def test_walk_example(self):
        book = Book.made(("b", "a"), a=((1, 1), (1, 1), None, None), b=((2, 1), (0, 1), None, None),
                         c=((1, 1), (0, 1), None, (9, 1)))
        self.assertEqual(list(book.walk()), [('b', 'a', 'c'), ('b', 'c', 'a'), ('c', 'b', 'a')])

    def test_the_sale(self):
        book = Book(plan=SALE)
        self.assertEqual(str(book), "add cut 1,-5,0,- / add off 9/10,0,-,-")
        self.assertEqual((book.plan, book.amount, book.open_questions), (SALE, (0, 1), (("cut", "off"),)))
        self.assertEqual(list(book.pieces_now()), [(None, (0, 1), (0, 1)), ((50, 9), (9, 10), (-5, 1))])
        self.assertEqual(list(book.pieces_now(greatest=True)), [(None, (0, 1), (0, 1)), ((5, 1), (9, 10), (-9, 2))])
        for amount in ((-3, 1), (0, 1), (9, 2), (5, 1)):
            book.amount = amount
            self.assertEqual((book.spread, book.is_sure), (((0, 1), (0, 1)), True))
        book.amount = (50, 9)
        self.assertEqual((book.spread, book.is_sure), (((0, 1), (1, 2)), False))
        for amount in ((6, 1), (100, 1), (10 ** 12, 7)):
            book.amount = amount
            low, high = book.spread
            self.assertEqual((exact(high) - exact(low), book.is_sure), (exact((1, 2)), False))
        self.assertEqual(list(book.walk()), [("cut", "off"), ("off", "cut")])
        self.assertEqual(book.tried(("before", "cut", "off"), ("amount", (100, 1))), (((171, 2), (171, 2)), True))
        self.assertEqual(book.tried(("before", "off", "cut"), ("amount", (100, 1))), (((85, 1), (85, 1)), True))

    def test_plans_at_the_limits(self):
        for plan in (long_plan(), far_plan()):
            lets_plan(plan)
            book = Book(plan=plan)
            self.assertEqual(book.plan, plan)
            for amount in ((5, 1), (10 ** 12, 999983)):
                book.amount = amount
                active = tuple(name for name, _, _ in plan[0])
                expected = tuple(pair_of(best_values(plan, exact(amount), pick)[active]) for pick in (min, max))
                self.assertEqual(book.spread, expected)
                for pieces, value in zip((list(book.pieces_now()), list(book.pieces_now(greatest=True))), expected):
                    self.assertEqual(pieces_value(pieces, amount), value)
            self.assertEqual(len(book.open_questions), 66 - 15)
            self.assertEqual(next(book.walk())[0], "a")
            self.assertEqual(book.barred(("add", "m", ADD)), "full")
            while len(book) > 0:
                book.undo()
            self.assertEqual(book, Book())

    def test_numbers_at_the_limits(self):
        book = Book(plan=plan_of({"huge": HUGE, "tiny": TINY, "half": HALF}), amount=(10 ** 12 - 11, 10 ** 6 - 1))
        self.assertLike(book, Model(book.log()))


class Trials(BookCase):
    def test_no_step(self):
        for book in (Book(), Book(plan=SALE, amount=(20, 1)), Book(plan=FIVE_OR_TEN, amount=(7, 1))):
            before = state_of(book)
            self.assertEqual(book.tried(), (book.spread, book.is_sure))
            self.assertIs(type(book.tried()), tuple)
            self.assertEqual(state_of(book), before)

    def test_several_steps(self):
        random = Random(59)
        for plan in (SALE, FIVE_OR_TEN, plan_of({"a": CUT, "b": BAND}, off="b")):
            book = Book(plan=plan, amount=(9, 1))
            book.go(("amount", (7, 1)))
            before = state_of(book)
            for _ in range(60):
                model = Model(book.log())
                steps, reason = [], None
                for _ in range(random.randrange(5)):
                    step = random_step(random, model)
                    steps.append(step)
                    reason = model.bar(step)
                    if reason is not None:
                        break
                    model.do(step)
                if reason is None:
                    spread = model.spread()
                    self.assertEqual(book.tried(*steps), (spread, spread[0] == spread[1]))
                    self.assertIs(type(book.tried(*steps)[1]), bool)
                else:
                    self.assertInvalid(steps[-1], reason, book.tried, *steps, ("drop", "zzz"))
                self.assertEqual(state_of(book), before)

    def test_a_barred_step_in_the_middle(self):
        book = Book(plan=SALE, amount=(20, 1))
        before = state_of(book)
        for middle, reason in ((("drop", "cap"), "name"), (("add", "cut", ADD), "name"), (None, "shape"), ([], "shape"),
                               (book, "shape"),
                               (("switch", "cut", False), "same"), (("before", "cut", "cut"), "same")):
            with self.assertRaises(InvalidStep) as caught:
                book.tried(("switch", "cut", False), ("amount", (7, 1)), middle, ("drop", "off"), ("drop", "off"))
            self.assertIs(caught.exception.step, middle)
            self.assertEqual(caught.exception.reason, reason)
            self.assertEqual(state_of(book), before)

    def test_a_trial_may_undo_everything_and_fill_the_book(self):
        book = Book(plan=SALE, amount=(20, 1))
        before = state_of(book)
        self.assertEqual(book.tried(("drop", "cut"), ("drop", "off")), (((20, 1), (20, 1)), True))
        adds = [("add", name, ADD) for name in THIRTEEN]
        self.assertInvalid(adds[10], "full", book.tried, *adds)
        self.assertEqual(state_of(book), before)

    def test_example(self):
        book = Book.made(cut=((9, 10), (0, 1), None, None), off=((1, 1), (-10, 1), None, None))
        book.amount = (100, 1)
        self.assertEqual([book.tried(("before", "cut", "off")), book.is_sure, book.counts()],
                         [(((80, 1), (80, 1)), True), False, (1, 1)])


class Counts(BookCase):
    def test_each_operation(self):
        book = Book()
        count = 0
        done = [
            lambda: book.go(("add", "a", ADD)), lambda: book.add_rule("b", CUT), lambda: book.put_before("a", "b"),
            lambda: book.take_before("a", "b"), lambda: book.switch_rule("a", False), lambda: book.drop_rule("a"),
            lambda: book.set_amount((1, 1)), lambda: setattr(book, "amount", (2, 1)), lambda: book.undo(), lambda: book.do_all(),
            lambda: book.do_all(("add", "c", CAP), ("add", "d", CAP)), lambda: book.do_all(("drop", "c"), keep=True),
            lambda: book.undo(),
        ]
        for act in done:
            act()
            count += 1
            self.assertEqual(book.counts(), (count, count))
        refused = [
            lambda: book.go(None), lambda: book.go(("drop", "zzz")), lambda: book.add_rule("b", CUT),
            lambda: book.put_before("b", "b"),
            lambda: book.take_before("a", "b"), lambda: book.switch_rule("b", True), lambda: book.drop_rule("zzz"),
            lambda: book.set_amount((2, 4)), lambda: setattr(book, "amount", None), lambda: book.go(("amount", (2, 4))),
            lambda: book.do_all(("drop", "b"), ("drop", "b")), lambda: book.do_all(("drop", "b"), None, keep=True),
            lambda: book.do_all(1),
        ]
        for act in refused:
            with self.assertRaises(StackError):
                act()
            count += 1
            self.assertEqual(book.counts(), (count, count))
            self.assertIs(type(book.counts()), tuple)

    def test_undo_of_nothing_is_counted(self):
        book = Book()
        for k in (1, 2):
            with self.assertRaises(NothingToUndo):
                book.undo()
            self.assertEqual(book.counts(), (k, k))

    def test_nothing_else_counts(self):
        book = Book.read("add a 1,5,-,-\nadd b 1,0,-,20\namount 7")
        book.plan, book.amount, book.spread, book.is_sure, book.open_questions
        book.barred(None), book.barred(("drop", "a")), book.log(), len(book), str(book), book == Book(), book != Book()
        list(book.walk()), list(book.pieces_now()), next(book.walk()), book.tried(("drop", "a"))
        with self.assertRaises(InvalidStep):
            book.tried(("drop", "a"), ("drop", "a"))
        book.made(a=ADD), book.empty(), book.read("amount 5"), book.amount_of("5"), book.counts()
        with self.assertRaises(InvalidText):
            book.read("x")
        self.assertEqual(book.counts(), (0, 0))

    def test_each_book_has_its_own(self):
        one, other = Book(), Book()
        one.set_amount((1, 1))
        self.assertEqual((one.counts(), other.counts()), ((1, 1), (0, 0)))
        self.assertEqual((len(one), len(other)), (1, 0))


class Logs(BookCase):
    def test_log_len_and_str(self):
        steps = [step for step, _ in LINES if step[0] in ("add", "amount")]
        lines = [line for _, line in LINES if line.startswith(("add", "amount"))]
        book = Book()
        for k, step in enumerate(steps, 1):
            book.go(step)
            self.assertEqual((book.log(), len(book), str(book)), (tuple(steps[:k]), k, " / ".join(lines[:k])))
            self.assertEqual(repr(book.log()), repr(tuple(steps[:k])))
        self.assertIs(type(book.log()), tuple)
        self.assertIs(type(str(book)), str)

    def test_equal_books(self):
        one = Book(plan=SALE, amount=(5, 1))
        other = Book.read(str(one).replace(" / ", "\n"))
        other.undo()
        other.amount = (5, 1)
        self.assertTrue(one == other and other == one)
        self.assertFalse(one != other or other != one)
        self.assertNotEqual(one.counts(), other.counts())
        self.assertIn(one, [other])
        self.assertEqual([one, 1], [other, 1])
        self.assertTrue(one == one)

    def test_equal_plans_but_other_logs(self):
        one = Book.made(a=ADD, b=CUT)
        for other in (Book.read("add b 1,-5,0,-\nadd a 1,5,-,-"), Book.read("add a 1,5,-,-\nadd b 1,-5,0,-\namount 0"),
                      Book.read("add a 1,5,-,-\nadd b 1,-5,0,-\nswitch a off\nswitch a on")):
            self.assertEqual((one.plan, one.amount), (other.plan, other.amount))
            self.assertTrue(one != other and other != one)
            self.assertFalse(one == other or other == one)

    def test_no_other_value_is_equal(self):
        for book in (Book(), Book(plan=SALE)):
            for thing in (*ODD_VALUES, nested(30), book.log(), list(book.log()), book.plan, str(book), len(book), Desk(),
                          Cap(most=(1, 1)),
                          [book], (book,), object()):
                self.assertFalse(book == thing)
                self.assertFalse(thing == book)
                self.assertTrue(book != thing)
                self.assertTrue(thing != book)
            self.assertNotIn(book, [*ODD_VALUES, Desk(), Cap(most=(1, 1))])

    def test_undo(self):
        book = Book(plan=plan_of({"a": CUT, "b": OFF, "c": CAP}, (("a", "b"), ("b", "c")), "c"), amount=(9, 1))
        book.drop_rule("b")
        logged = book.log()
        states = [Model(logged[:k]) for k in range(len(logged))]
        for model, step in zip(reversed(states), reversed(logged)):
            self.assertEqual(book.undo(), step)
            self.assertLike(book, model)
        before = state_of(book)
        with self.assertRaises(NothingToUndo) as caught:
            book.undo()
        self.assertEqual(caught.exception.steps, 0)
        self.assertIs(type(caught.exception.steps), int)
        self.assertIsInstance(caught.exception, PlanError)
        self.assertEqual(state_of(book)[:8], before[:8])

    def test_another_step_behind_an_undo(self):
        book = Book(plan=SALE)
        self.assertEqual(book.undo(), ("add", "off", OFF))
        book.add_rule("off", HALF)
        self.assertEqual(book, Book.made(cut=CUT, off=HALF))
        self.assertLike(book, Model(book.log()))
        self.assertEqual([book.undo(), book.undo()], [("add", "off", HALF), ("add", "cut", CUT)])
        self.assertEqual(book, Book())

    def test_undo_of_an_amount(self):
        book = Book(amount=(5, 1))
        book.amount = (7, 1)
        self.assertEqual((book.undo(), book.amount, book.undo(), book.amount),
                         (("amount", (7, 1)), (5, 1), ("amount", (5, 1)), (0, 1)))

    def test_what_was_given_out_does_not_change(self):
        book = Book(plan=SALE)
        plan, log, questions = book.plan, book.log(), book.open_questions
        book.drop_rule("cut")
        book.undo()
        book.undo()
        self.assertEqual((plan, log, questions), (SALE, Book(plan=SALE).log(), (("cut", "off"),)))


class DoAll(BookCase):
    def test_all_are_done(self):
        steps = [("add", "a", CUT), ("add", "b", LESS), ("before", "b", "a"), ("amount", (9, 1)), ("switch", "a", False)]
        for named in ({}, {"keep": False}, {"keep": True}):
            book = Book()
            self.assertEqual(book.do_all(*steps, **named), 5)
            self.assertLike(book, Model(steps), 1)
            self.assertEqual(book.do_all(**named), 0)
            self.assertEqual((len(book), book.counts()), (5, (2, 2)))

    def test_a_barred_step(self):
        steps = [("add", "a", CUT), ("switch", "a", False), ("amount", (9, 1))]
        for barred, reason in ((("drop", "zzz"), "name"), (("add", "cut", ADD), "name"), (None, "shape"),
                               (["drop", "a"], "shape"),
                               (("before", "cut", "cut"), "same")):
            for k in range(len(steps) + 1):
                given = steps[:k] + [barred] + steps[k:] + [("drop", "zzz")]
                for named in ({}, {"keep": False}, {"keep": True}):
                    book = Book(plan=SALE, amount=(20, 1))
                    log = book.log()
                    with self.assertRaises(InvalidStep) as caught:
                        book.do_all(*given, **named)
                    self.assertIs(caught.exception.step, barred)
                    self.assertEqual(caught.exception.reason, reason)
                    kept = tuple(steps[:k]) if named.get("keep") else ()
                    self.assertLike(book, Model(log + kept), 1)
                    self.assertEqual(book.undo(), (log + kept)[-1])

    def test_random_steps(self):
        random = Random(61)
        barred = 0
        for _ in range(60):
            book, model = Book(plan=SALE), Model(Book(plan=SALE).log())
            for k in range(1, 4):
                keep = random.random() < 0.5
                trial = Model(model.log)
                steps, reason = [], None
                for _ in range(random.randrange(5)):
                    steps.append(random_step(random, trial))
                    reason = trial.bar(steps[-1])
                    if reason is not None:
                        break
                    trial.do(steps[-1])
                if reason is None:
                    self.assertEqual(book.do_all(*steps, keep=keep), len(steps))
                    model = trial
                else:
                    barred += 1
                    self.assertInvalid(steps[-1], reason, book.do_all, *steps, keep=keep)
                    model = trial if keep else model
                self.assertLike(book, model, k)
        self.assertGreater(barred, 30)
