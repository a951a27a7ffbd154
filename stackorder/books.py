"""Books: a plan and an amount that steps change, with all their results."""

from stackorder.bounds import greatest_pieces, least_pieces, spread_at
from stackorder.clausereadings import fraction_read
from stackorder.errors import InvalidAmount, InvalidStep, NothingToUndo
from stackorder.kinds import is_fraction
from stackorder.linereadings import read_log
from stackorder.orders import orders_of
from stackorder.outcomes import questions_of
from stackorder.stepping import NO_AMOUNT, NO_PLAN, bar_of, state_after, steps_to
from stackorder.steplines import log_lines
from stackorder.tallies import Tally


class Book:
    """A plan and an amount, with the log of the steps that led to them. Rules that are off are among the MOST, too."""

    MOST = 12

    def __init__(self, *, plan=((), ()), amount=(0, 1)):
        self._tally = Tally()
        self._steps = []
        # The plan and the amount before the first step, and behind each step: undoing needs nothing else.
        self._states = [(NO_PLAN, NO_AMOUNT)]
        for step in steps_to(plan, amount):
            self._do(step)

    @classmethod
    def empty(cls):
        return cls()

    @classmethod
    def made(cls, *pairs, **clauses):
        adds = [("add", name, clauses[name]) for name in sorted(clauses)]
        return cls.after(adds + [("before", *pair) for pair in pairs])

    @classmethod
    def read(cls, text):
        lines = [] if text == "" else text.split("\n")
        return cls.after(read_log(lines))

    @classmethod
    def after(cls, steps):
        """The book after these steps, none of which is counted."""
        book = cls()
        for step in steps:
            book._do(step)
        return book

    @staticmethod
    def amount_of(text):
        return fraction_read(text)

    @property
    def plan(self):
        return self._states[-1][0]

    @property
    def amount(self):
        return self._states[-1][1]

    @amount.setter
    def amount(self, value):
        with self._tally:
            if not is_fraction(value):
                raise InvalidAmount(value)
            self._do(("amount", value))

    @property
    def spread(self):
        return spread_at(self.plan, self.amount)

    @property
    def is_sure(self):
        spread = self.spread
        return spread[0] == spread[1]

    @property
    def open_questions(self):
        return questions_of(self.plan)

    def _do(self, step):
        self._states.append(state_after(self._states[-1], step, Book.MOST))
        self._steps.append(step)

    def _undo_to(self, many):
        """Undoes the last steps, so that so many are left."""
        del self._steps[many:]
        del self._states[many + 1:]

    def add_rule(self, name, clause):
        self.go(("add", name, clause))

    def drop_rule(self, name):
        self.go(("drop", name))

    def switch_rule(self, name, is_on):
        self.go(("switch", name, is_on))

    def put_before(self, first, second):
        self.go(("before", first, second))

    def take_before(self, first, second):
        self.go(("unbefore", first, second))

    def go(self, step):
        with self._tally:
            self._do(step)

    def set_amount(self, value):
        self.amount = value
        return self.amount

    def barred(self, step):
        return bar_of(self.plan, step, Book.MOST)

    def do_all(self, *steps, keep=False):
        with self._tally:
            many = len(self._steps)
            try:
                for step in steps:
                    self._do(step)
            except InvalidStep:
                if not keep:
                    self._undo_to(many)
                raise
        return len(steps)

    def tried(self, *steps):
        # The steps are done to values, not to the book, so nothing of the book has to be put back.
        state = self._states[-1]
        for step in steps:
            state = state_after(state, step, Book.MOST)
        plan, amount = state
        spread = spread_at(plan, amount)
        return (spread, spread[0] == spread[1])

    def walk(self):
        plan = self.plan
        yield from orders_of(plan)

    def pieces_now(self, *, greatest=False):
        plan = self.plan
        pieces = greatest_pieces(plan) if greatest else least_pieces(plan)
        yield from pieces

    def log(self):
        return tuple(self._steps)

    def undo(self):
        with self._tally:
            if len(self._steps) == 0:
                raise NothingToUndo(0)
            step = self._steps[-1]
            self._undo_to(len(self._steps) - 1)
        return step

    def counts(self):
        return self._tally.counts()

    def __len__(self):
        return len(self._steps)

    def __str__(self):
        lines = log_lines(self._steps)
        if len(lines) == 0:
            return "-"
        return " / ".join(lines)

    def __eq__(self, other):
        return isinstance(other, Book) and self._steps == other._steps
