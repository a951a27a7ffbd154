"""Books made again from their logs."""

from stackorder.books import Book
from stackorder.steps import is_step


def is_log(thing):
    return isinstance(thing, tuple) and all([is_step(step) for step in thing])


def replayed(log):
    return Book.after(log)
