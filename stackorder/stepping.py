"""Steps that change a plan and its amount: what bars them and what they do."""

from stackorder.errors import InvalidStep
from stackorder.follows import reached_from, seconds_of
from stackorder.kinds import is_fraction
from stackorder.steps import is_step

NO_PLAN = ((), ())
NO_AMOUNT = (0, 1)


def switches_of(plan):
    """A dict from the name of each rule to whether it is on."""
    return {name: is_on for name, _, is_on in plan[0]}


def bar_of_add(plan, name, most):
    names = switches_of(plan)
    if name in names:
        return "name"
    return "full" if len(names) >= most else None


def bar_of_switch(plan, name, is_on):
    switches = switches_of(plan)
    if name not in switches:
        return "name"
    return "same" if switches[name] == is_on else None


def bar_of_before(plan, first, second):
    names = switches_of(plan)
    if first not in names or second not in names:
        return "name"
    if first == second:
        return "same"
    if (first, second) in plan[1]:
        return "pair"
    return "circle" if first in reached_from(seconds_of(plan[1]), second) else None


def bar_of(plan, step, most):
    """The word that bars the step, or None. The step is any value; most is the number of rules that are enough."""
    if not is_step(step):
        return "shape"
    word = step[0]
    if word == "add":
        return bar_of_add(plan, step[1], most)
    if word == "drop":
        return None if step[1] in switches_of(plan) else "name"
    if word == "switch":
        return bar_of_switch(plan, step[1], step[2])
    if word == "before":
        return bar_of_before(plan, step[1], step[2])
    if word == "unbefore":
        return None if step[1:] in plan[1] else "pair"
    return None


def dropped(plan, name):
    """The plan without the rule and without all pairs with it."""
    rules, pairs = plan
    kept = [rule for rule in rules if rule[0] != name]
    return (tuple(kept), tuple([pair for pair in pairs if name not in pair]))


def switched(rules, name, is_on):
    """The rules, one of them switched on or off."""
    return tuple([(other, clause, is_on if other == name else was_on) for other, clause, was_on in rules])


def plan_after(plan, step):
    """The plan after a step that is not barred."""
    rules, pairs = plan
    word = step[0]
    if word == "add":
        # The names differ, so they alone decide the order.
        return (tuple(sorted(rules + ((step[1], step[2], True),))), pairs)
    if word == "drop":
        return dropped(plan, step[1])
    if word == "switch":
        return (switched(rules, step[1], step[2]), pairs)
    if word == "before":
        return (rules, tuple(sorted(pairs + (step[1:],))))
    if word == "unbefore":
        return (rules, tuple([pair for pair in pairs if pair != step[1:]]))
    return plan


def state_after(state, step, most):
    """The pair of the plan and the amount after the step, which is any value; raises InvalidStep if it is barred."""
    plan, amount = state
    word = bar_of(plan, step, most)
    if word is not None:
        raise InvalidStep(step, word)
    return (plan_after(plan, step), step[1] if step[0] == "amount" else amount)


def steps_to(plan, amount):
    """The list of the steps that lead from a new book to the plan and the amount."""
    rules, pairs = plan
    steps = [("add", name, clause) for name, clause, _ in rules]
    steps.extend([("before", first, second) for first, second in pairs])
    steps.extend([("switch", name, False) for name, _, is_on in rules if not is_on])
    # What is no fraction is not (0, 1), even if Python finds the two equal.
    if not is_fraction(amount) or amount != NO_AMOUNT:
        steps.append(("amount", amount))
    return steps
