"""A desk: a book that is asked and changed by strings, and answers with strings."""

from stackorder.books import Book
from stackorder.clausetexts import fraction_text
from stackorder.errors import InvalidCommand, InvalidText
from stackorder.linereadings import read_log, read_step
from stackorder.steplines import step_line
from stackorder.tallies import Tally
from stackorder.ways import number_of_orders

# The commands that stand alone; the others contain lines of steps.
ALONE = ("spread", "sure", "questions", "orders", "undo", "count", "log", "new")


def command_of(text):
    """The word of the command in the string and the tuple of its steps; the line of a step has the word go."""
    if text in ALONE:
        return (text, ())
    word, _, lines = text.partition(" ")
    try:
        if word == "try":
            return (word, read_log(lines.split(" / ")))
        if word == "bars":
            return (word, (read_step(lines),))
        return ("go", (read_step(text),))
    except InvalidText:
        raise InvalidCommand(text) from None


def spread_text(spread):
    low, high = spread
    return f"{fraction_text(low)} {fraction_text(high)}"


def questions_text(questions):
    return ",".join([f"{first}:{second}" for first, second in questions]) if questions else "-"


class Desk:
    """Says each string to its book; new is a command, too, so the counts outlive the book."""

    def __init__(self):
        self._book = Book.empty()
        self._tally = Tally()

    def say(self, text):
        with self._tally:
            word, steps = command_of(text)
            answer = self._answer(word, steps)
        return answer

    def _answer(self, word, steps):
        """Does what the command says and returns the answer."""
        if word == "go":
            self._book.go(steps[0])
            return "ok"
        if word == "new":
            self._book = Book.empty()
            return "ok"
        if word == "undo":
            return step_line(self._book.undo())
        if word == "bars":
            bar = self._book.barred(steps[0])
            return "-" if bar is None else bar
        if word == "try":
            return spread_text(self._book.tried(*steps)[0])
        return self._told(word)

    def _told(self, word):
        """The answer to a command that only asks about the book as it is."""
        if word == "spread":
            return spread_text(self._book.spread)
        if word == "sure":
            return "yes" if self._book.is_sure else "no"
        if word == "questions":
            return questions_text(self._book.open_questions)
        if word == "orders":
            return str(number_of_orders(self._book.plan))
        if word == "count":
            return str(len(self._book))
        return str(self._book)

    def counts(self):
        return self._tally.counts()
