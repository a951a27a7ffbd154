"""Plans with answers to questions, and the sets of questions that settle the outcome of an amount."""

from stackorder.errors import InvalidStep, UnknownName
from stackorder.follows import active_names, reached_from, seconds_of
from stackorder.orders import is_before, orders_of
from stackorder.outcomes import outcomes_by_order, outcomes_of, questions_of


def check_answers(plan, answers):
    """Checks each of the answers by itself."""
    active = active_names(plan)
    for answer in answers:
        for name in answer:
            if name not in active:
                raise UnknownName(name)
    questions = questions_of(plan)
    for answer in answers:
        if tuple(sorted(answer)) not in questions:
            raise InvalidStep(answer, "question")


def narrowed(plan, *answers):
    check_answers(plan, answers)
    rules, pairs = plan
    joined = tuple(sorted(set(pairs + answers)))
    # The plan itself has no circle, so each circle leads through an answer.
    seconds = seconds_of(joined)
    if any([first in reached_from(seconds, first) for first, _ in answers]):
        raise InvalidStep(answers, "joint")
    return (rules, joined)


def answers_of(order, questions):
    """The tuple of the order's answers to the questions."""
    return tuple([question if is_before(order, *question) else question[::-1] for question in questions])


def joint_answers(plan, questions):
    """The ascending list of all choices of joint answers, one for each question."""
    return sorted({answers_of(order, questions) for order in orders_of(plan)})


def settled_by(plan, amount, *answers):
    outcomes = outcomes_of(narrowed(plan, *answers), amount)
    return outcomes[0] if len(outcomes) == 1 else None


def settling_reasons(plan, amount):
    """A dict from each question of the minimal settling set to two orders that show that it is needed.

    A question is needed exactly if neighbours show it: the orders differ only in the order of these two
    rules, as neighbours, and have different outcomes. So there is one minimal set.
    """
    outcomes = outcomes_by_order(plan, amount)
    reasons = {}
    for order in outcomes:
        for k in range(1, len(order)):
            exchanged = order[:k - 1] + (order[k], order[k - 1]) + order[k + 1:]
            if exchanged in outcomes and outcomes[exchanged] != outcomes[order]:
                reasons[tuple(sorted(order[k - 1:k + 1]))] = (order, exchanged)
    return reasons


def settling_sets(plan, amount):
    return (tuple(sorted(settling_reasons(plan, amount))),)
