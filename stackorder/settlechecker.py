"""The checker of settle papers."""

from stackorder.amounttables import check_table, is_amount_table
from stackorder.clauses import applied
from stackorder.errors import InvalidPaper
from stackorder.kinds import are_names, is_row
from stackorder.orders import chain_of, is_legal
from stackorder.outcomes import questions_of
from stackorder.plankinds import are_pairs_of_names
from stackorder.settling import answers_of, joint_answers, narrowed


def is_settle_row(thing):
    return is_row(thing, 2) and are_pairs_of_names(thing[0]) and is_amount_table(thing[1])


def is_pair_of_orders(thing):
    """Whether the value has the shape of a pair of orders."""
    return is_row(thing, 2) and are_names(thing[0]) and are_names(thing[1])


def is_settle_shape(thing):
    if not is_row(thing, 3) or not are_pairs_of_names(thing[0]):
        return False
    if not isinstance(thing[1], tuple) or not isinstance(thing[2], tuple):
        return False
    return all([is_settle_row(row) for row in thing[1]]) and all([is_pair_of_orders(pair) for pair in thing[2]])


def check_questions(plan, questions):
    known = questions_of(plan)
    if list(questions) != sorted(set(questions)) or not all([question in known for question in questions]):
        raise InvalidPaper("questions", -1)


def check_rows(plan, amount, questions, rows):
    if [answers for answers, _ in rows] != joint_answers(plan, questions):
        raise InvalidPaper("rows", -1)
    for i, (answers, table) in enumerate(rows):
        check_table(narrowed(plan, *answers), amount, table, i)


def have_equal_outcomes(plan, amount, one, other):
    """Whether two legal orders have the same outcome of the amount."""
    return applied(chain_of(plan, one), amount) == applied(chain_of(plan, other), amount)


def check_reasons(plan, amount, questions, reasons):
    if len(reasons) != len(questions):
        raise InvalidPaper("reasons", -1)
    for i, (one, other) in enumerate(reasons):
        others = questions[:i] + questions[i + 1:]
        if not is_legal(plan, one) or not is_legal(plan, other) or answers_of(one, others) != answers_of(other, others):
            raise InvalidPaper("orders", i)
        if have_equal_outcomes(plan, amount, one, other):
            raise InvalidPaper("same", i)


def lets_settle(plan, amount, thing):
    if not is_settle_shape(thing):
        raise InvalidPaper("shape", -1)
    questions, rows, reasons = thing
    check_questions(plan, questions)
    check_rows(plan, amount, questions, rows)
    check_reasons(plan, amount, questions, reasons)
    return questions
