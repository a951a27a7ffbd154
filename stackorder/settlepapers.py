"""Settle papers: the questions that settle the outcome of an amount, and why none of them can be left out."""

from stackorder.amounttables import amount_table
from stackorder.settling import joint_answers, narrowed, settling_reasons


def settle_paper(plan, amount):
    reasons = settling_reasons(plan, amount)
    questions = tuple(sorted(reasons))
    choices = joint_answers(plan, questions)
    rows = tuple([(answers, amount_table(narrowed(plan, *answers), amount)) for answers in choices])
    return (questions, rows, tuple([reasons[question] for question in questions]))
