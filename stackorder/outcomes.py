"""All outcomes of an amount, and the questions whose answers decide between them."""

from stackorder.clauses import applied
from stackorder.follows import active_names, follows_of
from stackorder.fractions import ascending
from stackorder.ways import ways_of


def outcomes_of(plan, amount):
    ways = ways_of(plan)
    made = {(): [amount]}
    for start in sorted(ways, key=len)[1:]:
        values = [applied(clause, value) for rest, _, clause in ways[start] for value in made[rest]]
        made[start] = ascending(values)
    return tuple(made[active_names(plan)])


def questions_of(plan):
    active = active_names(plan)
    decided = follows_of(plan)
    questions = []
    for i, one in enumerate(active):
        for other in active[i + 1:]:
            if (one, other) not in decided and (other, one) not in decided:
                questions.append((one, other))
    return tuple(questions)
