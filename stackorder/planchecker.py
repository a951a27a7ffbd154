"""The checker of plans: the first reason why a value is not a plan."""

from stackorder.errors import InvalidPaper
from stackorder.follows import active_names, reached_from, seconds_of
from stackorder.plankinds import has_plan_shape


def check_rules(rules):
    for k in range(1, len(rules)):
        if rules[k][0] <= rules[k - 1][0]:
            raise InvalidPaper("rule", k)


def check_pairs(names, pairs):
    for p, pair in enumerate(pairs):
        for i, name in enumerate(pair):
            if name not in names:
                raise InvalidPaper("name", (p, i))
        if pair[0] == pair[1]:
            raise InvalidPaper("same", p)
        if p > 0 and pair <= pairs[p - 1]:
            raise InvalidPaper("pair", p)


def check_circles(names, pairs):
    seconds = seconds_of(pairs)
    for k, name in enumerate(names):
        if name in reached_from(seconds, name):
            raise InvalidPaper("circle", k)


def lets_plan(thing):
    if not has_plan_shape(thing):
        raise InvalidPaper("shape", -1)
    rules, pairs = thing
    check_rules(rules)
    names = [rule[0] for rule in rules]
    check_pairs(names, pairs)
    check_circles(names, pairs)
    return len(active_names(thing))
